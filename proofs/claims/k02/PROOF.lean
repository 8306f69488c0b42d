import PyProof.Rows.All
import Wide.All
import OpenK.AllK
import Wide.FinOn
import HandS.ForMost
import HandS.ForExc
import HandS.Gcd
import HandS.Wide
import HandS.NoneIn
import HandS.Defaults
import HandS.Conv
import HandS.Style
import HandS.Zip
import HandS.Walk
import KE.GoesNew
import HandS.IsInst
import HandS.ExcInit
import HandS.ExcIs
import HandS.ExcField
import HandS.TryMany
import HandS.Lambda
import HandS.EndTab
import HandS.EndOwn
import KE.KTypeName
import PySem.Challenge.RW_stalkweb_k02_sums_and_products
set_option Elab.async false
set_option linter.all false
set_option maxRecDepth 100000
set_option maxHeartbeats 4000000
/-! Numbers of a field, in plain Lean: pairs as the program reckons them, and the field that they encode. -/
namespace St
open Lean.Grind
/-! ### the program's reckoning -/
abbrev Pr := Int × Int
def primesN : List Nat := [2, 3, 5, 7, 11, 13, 17, 19, 23, 29, 31, 37, 41, 43, 47, 53, 59, 61, 67, 71, 73, 79, 83, 89, 97]
def IsF (f : Int) : Prop := f = 0 ∨ ∃ p ∈ primesN, f = (p : Int)
def IsN (f : Int) (q : Pr) : Prop := (f = 0 ∧ 1 ≤ q.2 ∧ Int.gcd q.1 q.2 = 1) ∨ (f ≠ 0 ∧ q.2 = 1 ∧ 0 ≤ q.1 ∧ q.1 < f)
/-- the n-fold product, by steps -/
def powm (p b : Int) : Nat → Int
  | 0 => 1
  | n + 1 => powm p b n * b % p
def powN (p b : Nat) : Nat → Nat
  | 0 => 1
  | n + 1 => powN p b n * b % p
theorem powm_cast (p b : Nat) : ∀ n, powm p b n = (powN p b n : Int)
  | 0 => rfl
  | n + 1 => by
    show powm p b n * b % p = ((powN p b n * b % p : Nat) : Int)
    rw [powm_cast p b n]
    simp
def gOf (t b : Int) : Int := if b < 0 then -((Nat.gcd t.natAbs b.natAbs : Nat) : Int) else ((Nat.gcd t.natAbs b.natAbs : Nat) : Int)
def low (f t b : Int) : Pr := if f ≠ 0 then (t % f * powm f (b % f) (f - 2).toNat % f, 1) else (t.fdiv (gOf t b), b.fdiv (gOf t b))
def addN (f : Int) (p q : Pr) : Pr := if f ≠ 0 then ((p.1 + q.1) % f, 1) else low f (p.1 * q.2 + q.1 * p.2) (p.2 * q.2)
def mulN (f : Int) (p q : Pr) : Pr := if f ≠ 0 then (p.1 * q.1 % f, 1) else low f (p.1 * q.1) (p.2 * q.2)
def negN (f : Int) (p : Pr) : Pr := if f ≠ 0 then (-p.1 % f, 1) else (-p.1, p.2)
def invN (f : Int) (p : Pr) : Pr := low f p.2 p.1
/-! ### a field made of a commutative ring and inverses -/
def mkZpow {F : Type} [CommRing F] (inv : F → F) (a : F) : Int → F
  | .ofNat n => a ^ n
  | .negSucc n => inv (a ^ (n + 1))
theorem inv_uniq {F : Type} [CommRing F] {a b c : F} (h1 : a * b = 1) (h2 : a * c = 1) : b = c := by grind
section
variable {F : Type} [R : CommRing F] (inv : F → F)
theorem inv_one' (h01 : (0 : F) ≠ 1) (hm : ∀ a : F, a ≠ 0 → a * inv a = 1) : inv 1 = 1 := by
  have h := hm 1 (fun e => h01 e.symm)
  rw [Semiring.one_mul] at h
  exact h
theorem inv_inv' (h01 : (0 : F) ≠ 1) (h0 : inv 0 = 0) (hm : ∀ a : F, a ≠ 0 → a * inv a = 1) (a : F) : inv (inv a) = a := by
  by_cases ha : a = 0
  · rw [ha, h0, h0]
  · have h1 := hm a ha
    have hne : inv a ≠ 0 := fun e => by
      rw [e] at h1
      grind
    have h2 := hm (inv a) hne
    exact inv_uniq (a := inv a) h2 (by grind)
theorem zpow_neg' (h01 : (0 : F) ≠ 1) (h0 : inv 0 = 0) (hm : ∀ a : F, a ≠ 0 → a * inv a = 1) (a : F) (n : Int) : mkZpow inv a (-n) = inv (mkZpow inv a n) := by
  match n with
  | .ofNat 0 =>
    have e : a ^ 0 = 1 := Semiring.pow_zero a
    show a ^ 0 = inv (a ^ 0)
    rw [e, inv_one' inv h01 hm]
  | .ofNat (k + 1) => rfl
  | .negSucc k =>
    show a ^ (k + 1) = inv (inv (a ^ (k + 1)))
    rw [inv_inv' inv h01 h0 hm]
end
@[reducible] def mkField {F : Type} (R : CommRing F) (inv : F → F) (h01 : (0 : F) ≠ 1) (h0 : inv 0 = 0) (hm : ∀ a : F, a ≠ 0 → a * inv a = 1) : Field F :=
  letI z : HPow F Int F := ⟨fun a n => mkZpow inv a n⟩
  { R with
    inv := inv
    div := fun a b => a * inv b
    zpow := z
    div_eq_mul_inv := fun _ _ => rfl
    zero_ne_one := h01
    inv_zero := h0
    mul_inv_cancel := fun {a} ha => hm a ha
    zpow_zero := fun a => Semiring.pow_zero a
    zpow_succ := fun a n => Semiring.pow_succ a n
    zpow_neg := fun a n => zpow_neg' inv h01 h0 hm a n }
/-! ### the field of a number f -/
structure Fd (f : Int) where
  F : Type
  fld : Field F
  dec : DecidableEq F
  enc : F → Pr
  inj : ∀ x y, enc x = enc y → x = y
  num : ∀ x, IsN f (enc x)
  sur : ∀ p, IsN f p → ∃ x, enc x = p
  zero : enc 0 = (0, 1)
  one : enc 1 = (1, 1)
  add : ∀ x y, enc (x + y) = addN f (enc x) (enc y)
  mul : ∀ x y, enc (x * y) = mulN f (enc x) (enc y)
  neg : ∀ x, enc (-x) = negN f (enc x)
  inv : ∀ x, x ≠ 0 → enc (x⁻¹) = invN f (enc x)
  /-- whole numbers -/
  ofI : Int → F
  low : ∀ t b, ofI b ≠ 0 → enc (ofI t * (ofI b)⁻¹) = low f t b
  ofI0 : ∀ b, ofI b = 0 ↔ (if f = 0 then b = 0 else b % f = 0)
  ofI_add : ∀ s t, ofI (s + t) = ofI s + ofI t
  ofI_mul : ∀ s t, ofI (s * t) = ofI s * ofI t
  ofI_one : ofI 1 = 1
  encI : ∀ z, enc (ofI z) = if f = 0 then (z, 1) else (z % f, 1)
/-! ### fractions -/
theorem low0 (t b : Int) (hb : b ≠ 0) : low 0 t b = ((Rat.divInt t b).num, ((Rat.divInt t b).den : Int)) := by
  have hg : (Nat.gcd t.natAbs b.natAbs : Nat) ≠ 0 := by
    intro h
    rw [Nat.gcd_eq_zero_iff] at h
    omega
  have h1 : ((Nat.gcd t.natAbs b.natAbs : Nat) : Int) ∣ t := by
    rw [Int.ofNat_dvd_left]
    exact Nat.gcd_dvd_left _ _
  have h2 : ((Nat.gcd t.natAbs b.natAbs : Nat) : Int) ∣ b := by
    rw [Int.ofNat_dvd_left]
    exact Nat.gcd_dvd_right _ _
  have e : b.gcd t = Nat.gcd t.natAbs b.natAbs := by rw [Int.gcd_comm]; rfl
  rw [Rat.num_divInt, Rat.den_divInt, if_neg hb, e]
  show (if (0 : Int) ≠ 0 then _ else (t.fdiv (gOf t b), b.fdiv (gOf t b))) = _
  rw [if_neg (by simp)]
  unfold gOf
  generalize Nat.gcd t.natAbs b.natAbs = g at *
  obtain ⟨u, hu⟩ := h1
  obtain ⟨v, hv⟩ := h2
  have hg' : (g : Int) ≠ 0 := by omega
  have hgp : (0 : Int) < g := by omega
  subst hu
  subst hv
  have d1 : ∀ z : Int, (g * z).fdiv g = z := fun z => by rw [Int.mul_comm]; exact Int.mul_fdiv_cancel _ hg'
  have d2 : ∀ z : Int, (g * z).fdiv (-g) = -z := fun z => by
    have e : (g : Int) * z = -z * -g := by rw [Int.neg_mul_neg, Int.mul_comm]
    rw [e]
    exact Int.mul_fdiv_cancel _ (by omega)
  have hv0 : v ≠ 0 := fun h => by simp [h] at hb
  have nb : ((g * v : Int).natAbs / g : Nat) = v.natAbs := by
    rw [Int.natAbs_mul, Int.natAbs_natCast]
    exact Nat.mul_div_cancel_left _ (by omega)
  by_cases h : (g : Int) * v < 0
  · have hvn : v < 0 := by
      rcases Int.lt_or_gt_of_ne hv0 with h' | h'
      · exact h'
      · have := Int.mul_pos hgp h'
        omega
    rw [if_pos h, d2, d2, Int.sign_eq_neg_one_of_neg h, nb]
    have : -1 * (↑g * u) / (g : Int) = -u := by
      rw [show -1 * ((g : Int) * u) = g * (-u) by grind]
      exact Int.mul_ediv_cancel_left _ hg'
    rw [this]
    congr 1
    omega
  · have hvp : 0 < v := by
      rcases Int.lt_or_gt_of_ne hv0 with h' | h'
      · have := Int.mul_neg_of_pos_of_neg hgp h'
        omega
      · exact h'
    have hp : 0 < (g : Int) * v := Int.mul_pos hgp hvp
    rw [if_neg h, d1, d1, Int.sign_eq_one_of_pos hp, nb]
    have : 1 * (↑g * u) / (g : Int) = u := by
      rw [Int.one_mul]
      exact Int.mul_ediv_cancel_left _ hg'
    rw [this]
    congr 1
    omega
def encQ (r : Rat) : Pr := (r.num, (r.den : Int))
theorem encQ_low {t b : Int} (hb : b ≠ 0) : encQ (Rat.divInt t b) = low 0 t b := (low0 t b hb).symm
theorem encQ_self (r : Rat) : r = Rat.divInt r.num r.den := (Rat.num_divInt_den r).symm
theorem den_ne (r : Rat) : ((r.den : Nat) : Int) ≠ 0 := by
  have := r.den_nz
  omega
def fdQ : Fd 0 where
  F := Rat
  fld := inferInstance
  dec := inferInstance
  enc := encQ
  inj := fun x y h => by
    have h1 : x.num = y.num := congrArg Prod.fst h
    have h2 : (x.den : Int) = y.den := congrArg Prod.snd h
    exact Rat.ext h1 (by omega)
  num := fun x => Or.inl ⟨rfl, by
    have := x.den_nz
    show (1 : Int) ≤ (x.den : Int)
    omega, x.reduced⟩
  sur := fun p h => by
    rcases h with ⟨_, h1, h2⟩ | ⟨h, _⟩
    · have e : ((p.2.toNat : Nat) : Int) = p.2 := Int.toNat_of_nonneg (by omega)
      refine ⟨⟨p.1, p.2.toNat, by omega, ?_⟩, ?_⟩
      · have : p.2.natAbs = p.2.toNat := by omega
        rw [← this]
        exact h2
      · show ((p.1, ((p.2.toNat : Nat) : Int)) : Pr) = p
        rw [e]
    · exact absurd rfl h
  zero := rfl
  one := rfl
  add := fun x y => by
    have e : x + y = Rat.divInt (x.num * y.den + y.num * x.den) (x.den * y.den) := by
      conv => lhs; rw [encQ_self x, encQ_self y]
      exact Rat.divInt_add_divInt _ _ (den_ne x) (den_ne y)
    rw [e, encQ_low (Int.mul_ne_zero (den_ne x) (den_ne y))]
    rfl
  mul := fun x y => by
    have e : x * y = Rat.divInt (x.num * y.num) (x.den * y.den) := by
      conv => lhs; rw [encQ_self x, encQ_self y]
      exact Rat.divInt_mul_divInt _ _
    rw [e, encQ_low (Int.mul_ne_zero (den_ne x) (den_ne y))]
    rfl
  neg := fun x => rfl
  inv := fun x hx => by
    have e : x⁻¹ = Rat.divInt x.den x.num := by
      conv => lhs; rw [encQ_self x]
      exact Rat.inv_divInt _ _
    have hn : x.num ≠ 0 := fun h => hx (Rat.num_eq_zero.mp h)
    rw [e, encQ_low hn]
    rfl
  ofI := fun t => (t : Rat)
  low := fun t b hb => by
    have hb' : b ≠ 0 := fun h => hb (by rw [h]; rfl)
    rw [← encQ_low hb', Rat.divInt_eq_div, Rat.div_def]
  ofI0 := fun b => by simp
  ofI_add := fun s t => Rat.intCast_add s t
  ofI_mul := fun s t => Rat.intCast_mul s t
  ofI_one := rfl
  encI := fun z => by
    rw [if_pos rfl]
    rfl
/-! ### sums of fractions, by what both bottoms share -/
theorem fdiv_nat (a b : Nat) : ((a : Int).fdiv (b : Int)) = ((a / b : Nat) : Int) := by
  rw [Int.fdiv_eq_ediv_of_nonneg _ (by omega)]; rfl
def shB (p q : Pr) : Int := ((Nat.gcd p.2.natAbs q.2.natAbs : Nat) : Int)
def paB (p q : Pr) : Int := p.2.fdiv (shB p q)
def toB (p q : Pr) : Int := p.1 * q.2.fdiv (shB p q) + q.1 * paB p q
def coB (p q : Pr) : Int := ((Nat.gcd (toB p q).natAbs (shB p q).natAbs : Nat) : Int)
theorem add_lean {p q : Pr} (hp : IsN 0 p) (hq : IsN 0 q) : addN 0 p q = ((toB p q).fdiv (coB p q), paB p q * q.2.fdiv (coB p q)) := by
  obtain ⟨x, rfl⟩ : ∃ x : Rat, encQ x = p := fdQ.sur p hp
  obtain ⟨y, rfl⟩ : ∃ x : Rat, encQ x = q := fdQ.sur q hq
  have x0 := x.den_nz
  have y0 := y.den_nz
  change addN 0 (encQ x) (encQ y) = ((toB (encQ x) (encQ y)).fdiv (coB (encQ x) (encQ y)), paB (encQ x) (encQ y) * ((y.den : Int)).fdiv (coB (encQ x) (encQ y)))
  have es : shB (encQ x) (encQ y) = ((Nat.gcd x.den y.den : Nat) : Int) := by
    unfold shB encQ
    simp
  have hg0 : 0 < Nat.gcd x.den y.den := Nat.gcd_pos_of_pos_left _ (by omega)
  have hx := Nat.gcd_dvd_left x.den y.den
  have hy := Nat.gcd_dvd_right x.den y.den
  have ep : paB (encQ x) (encQ y) = ((x.den / Nat.gcd x.den y.den : Nat) : Int) := by
    unfold paB
    rw [es]
    exact fdiv_nat _ _
  have et : toB (encQ x) (encQ y) = x.num * ((y.den / Nat.gcd x.den y.den : Nat) : Int) + y.num * ((x.den / Nat.gcd x.den y.den : Nat) : Int) := by
    unfold toB
    rw [es, ep]
    show x.num * ((y.den : Int)).fdiv _ + _ = _
    rw [fdiv_nat]
    rfl
  have aux := @Rat.add.aux x y _ _ _ rfl rfl rfl
  have ec : coB (encQ x) (encQ y) = ((Nat.gcd (x.num * ((y.den / Nat.gcd x.den y.den : Nat) : Int) + y.num * ((x.den / Nat.gcd x.den y.den : Nat) : Int)).natAbs (Nat.gcd x.den y.den) : Nat) : Int) := by
    unfold coB
    rw [et, es]
    rfl
  simp only at aux
  generalize ht : x.num * ((y.den / Nat.gcd x.den y.den : Nat) : Int) + y.num * ((x.den / Nat.gcd x.den y.den : Nat) : Int) = t at *
  have hB : ((x.den / Nat.gcd x.den y.den * y.den : Nat) : Int) ≠ 0 := by
    have : 0 < x.den / Nat.gcd x.den y.den := Nat.div_pos (Nat.le_of_dvd (by omega) hx) hg0
    have := Nat.mul_pos this (by omega : 0 < y.den)
    omega
  have e1 : addN 0 (encQ x) (encQ y) = low 0 t ((x.den / Nat.gcd x.den y.den * y.den : Nat) : Int) := by
    unfold addN
    rw [if_neg (by simp)]
    have hB0 := Int.mul_ne_zero (den_ne x) (den_ne y)
    change ((encQ x).2 * (encQ y).2 : Int) ≠ 0 at hB0
    have k1 : (encQ x).1 * (encQ y).2 + (encQ y).1 * (encQ x).2 = (Nat.gcd x.den y.den : Int) * t := by
      rw [← ht]
      show x.num * (y.den : Int) + y.num * (x.den : Int) = _
      have a1 : (x.den : Int) = (Nat.gcd x.den y.den : Int) * ((x.den / Nat.gcd x.den y.den : Nat) : Int) := by
        have := Nat.mul_div_cancel' hx
        exact_mod_cast this.symm
      have a2 : (y.den : Int) = (Nat.gcd x.den y.den : Int) * ((y.den / Nat.gcd x.den y.den : Nat) : Int) := by
        have := Nat.mul_div_cancel' hy
        exact_mod_cast this.symm
      generalize ((x.den / Nat.gcd x.den y.den : Nat) : Int) = u at *
      generalize ((y.den / Nat.gcd x.den y.den : Nat) : Int) = v at *
      generalize (Nat.gcd x.den y.den : Int) = g at *
      rw [a1, a2]
      grind
    have k2 : (encQ x).2 * (encQ y).2 = (Nat.gcd x.den y.den : Int) * ((x.den / Nat.gcd x.den y.den * y.den : Nat) : Int) := by
      show (x.den : Int) * (y.den : Int) = _
      have := Nat.mul_div_cancel' hx
      have : x.den * y.den = Nat.gcd x.den y.den * (x.den / Nat.gcd x.den y.den * y.den) := by
        rw [← Nat.mul_assoc, this]
      exact_mod_cast this
    rw [low0 _ _ hB0, low0 _ _ hB, k1, k2, Rat.divInt_mul_left (by omega)]
  rw [e1]
  unfold low gOf
  rw [if_neg (by simp), if_neg (by omega)]
  show (t.fdiv ((Nat.gcd t.natAbs (x.den / Nat.gcd x.den y.den * y.den) : Nat) : Int), _) = _
  have e2 : Nat.gcd t.natAbs (x.den / Nat.gcd x.den y.den * y.den) = Nat.gcd t.natAbs (Nat.gcd x.den y.den) := aux.symm
  rw [ec, ep, et]
  have e3 : (((x.den / Nat.gcd x.den y.den * y.den : Nat)) : Int).natAbs = x.den / Nat.gcd x.den y.den * y.den := Int.natAbs_natCast _
  rw [e3, e2, fdiv_nat, fdiv_nat]
  congr 1
  have d : Nat.gcd t.natAbs (Nat.gcd x.den y.den) ∣ y.den := Nat.dvd_trans (Nat.gcd_dvd_right _ _) hy
  have := Nat.mul_div_assoc (x.den / Nat.gcd x.den y.den) d
  exact_mod_cast this
theorem fdiv_le {b s : Int} (hb : 0 ≤ b) (hs : 0 ≤ s) : (b.fdiv s).natAbs ≤ b.natAbs := by
  obtain ⟨m, rfl⟩ := Int.eq_ofNat_of_zero_le hb
  obtain ⟨n, rfl⟩ := Int.eq_ofNat_of_zero_le hs
  rw [fdiv_nat, Int.natAbs_natCast, Int.natAbs_natCast]
  exact Nat.div_le_self _ _
theorem sh_bd {p q : Pr} (hp : IsN 0 p) : 1 ≤ shB p q ∧ (shB p q).natAbs ≤ p.2.natAbs := by
  have h : 1 ≤ p.2 := by
    rcases hp with ⟨_, h, _⟩ | ⟨h, _⟩
    · exact h
    · exact absurd rfl h
  have h1 : 0 < Nat.gcd p.2.natAbs q.2.natAbs := Nat.gcd_pos_of_pos_left _ (by omega)
  have h2 := Nat.le_of_dvd (by omega) (Nat.gcd_dvd_left p.2.natAbs q.2.natAbs)
  unfold shB
  omega
theorem co_bd {p q : Pr} (hp : IsN 0 p) : 1 ≤ coB p q ∧ (coB p q).natAbs ≤ (shB p q).natAbs := by
  have h := (sh_bd (q := q) hp).1
  have h1 : 0 < Nat.gcd (toB p q).natAbs (shB p q).natAbs := Nat.gcd_pos_of_pos_right _ (by omega)
  have h2 := Nat.le_of_dvd (by omega) (Nat.gcd_dvd_right (toB p q).natAbs (shB p q).natAbs)
  unfold coB
  omega
/-! ### rests by a prime -/
theorem prime_pow : ∀ p ∈ primesN, ∀ a, a < p → a ≠ 0 → a * powN p a (p - 2) % p = 1 := by
  have h : primesN.all (fun p => (List.range p).all fun a => a == 0 || a * powN p a (p - 2) % p == 1) = true := by decide +kernel
  intro p hp a ha h0
  have h1 := List.all_eq_true.mp h p hp
  have h2 := List.all_eq_true.mp h1 a (List.mem_range.mpr ha)
  simpa [h0] using h2
theorem prime_big : ∀ p ∈ primesN, 2 ≤ p ∧ p ≤ 97 := by decide +kernel
def invF (p : Nat) [NeZero p] (a : Fin p) : Fin p := if a = 0 then 0 else Fin.ofNat p (powN p a.val (p - 2))
theorem powN_mod (p b : Nat) : ∀ n, powN p (b % p) n = powN p b n
  | 0 => rfl
  | n + 1 => by
    show powN p (b % p) n * (b % p) % p = powN p b n * b % p
    rw [powN_mod p b n]
    simp
theorem fin_ne {p : Nat} [NeZero p] {a : Fin p} (h : a ≠ 0) : a.val ≠ 0 := fun e => h (Fin.ext (by rw [e]; rfl))
theorem invF_mul {p : Nat} [NeZero p] (hp : p ∈ primesN) (a : Fin p) (ha : a ≠ 0) : a * invF p a = 1 := by
  unfold invF
  rw [if_neg ha]
  apply Fin.ext
  have h := prime_pow p hp a.val a.isLt (fin_ne ha)
  have h2 := (prime_big p hp).1
  rw [Fin.val_mul]
  show a.val * (powN p a.val (p - 2) % p) % p = (1 : Fin p).val
  rw [Nat.mul_mod_mod, h]
  show 1 = 1 % p
  rw [Nat.mod_eq_of_lt (by omega)]
theorem fin_01 {p : Nat} [NeZero p] (h : 2 ≤ p) : (0 : Fin p) ≠ 1 := by
  intro e
  have e2 : (0 : Nat) = 1 % p := congrArg Fin.val e
  rw [Nat.mod_eq_of_lt (by omega)] at e2
  cases e2
def encP (p : Nat) (x : Fin p) : Pr := ((x.val : Int), 1)
def ofP (p : Nat) [NeZero p] (t : Int) : Fin p := Fin.ofNat p (t % p).toNat
theorem ofP_val {p : Nat} [NeZero p] (hp : 2 ≤ p) (t : Int) : ((ofP p t).val : Int) = t % p := by
  show (((t % p).toNat % p : Nat) : Int) = t % p
  have h0 : (0 : Int) ≤ t % p := Int.emod_nonneg t (by omega)
  have h1 : t % (p : Int) < p := Int.emod_lt_of_pos t (by omega)
  rw [Nat.mod_eq_of_lt (by omega)]
  exact Int.toNat_of_nonneg h0
theorem ofP_eq {p : Nat} [NeZero p] (hp : 2 ≤ p) {t : Int} {x : Fin p} (h : t % p = (x.val : Int)) : ofP p t = x := by
  apply Fin.ext
  have := ofP_val hp t
  omega
theorem val_mul_int {p : Nat} (x y : Fin p) : (((x * y : Fin p).val : Nat) : Int) = (x.val : Int) * y.val % p := by
  rw [Fin.val_mul]
  simp
theorem val_add_int {p : Nat} (x y : Fin p) : (((x + y : Fin p).val : Nat) : Int) = ((x.val : Int) + y.val) % p := by
  rw [Fin.val_add]
  simp
theorem p_ne {p : Nat} (hp : 2 ≤ p) : (p : Int) ≠ 0 := by omega
theorem low_p {p : Nat} [NeZero p] (hp : 2 ≤ p) (t b : Int) (hb : ofP p b ≠ 0) : encP p (ofP p t * invF p (ofP p b)) = low p t b := by
  unfold low
  rw [if_pos (p_ne hp)]
  show ((((ofP p t * invF p (ofP p b) : Fin p).val : Nat) : Int), (1 : Int)) = _
  rw [val_mul_int, ofP_val hp]
  have e : (((invF p (ofP p b)).val : Nat) : Int) = powm p (b % p) (p - 2) % p := by
    unfold invF
    rw [if_neg hb]
    show ((powN p (ofP p b).val (p - 2) % p : Nat) : Int) = _
    have h := powm_cast p (ofP p b).val (p - 2)
    rw [ofP_val hp] at h
    rw [h]
    simp
  rw [e]
  have e2 : ((p : Int) - 2).toNat = p - 2 := by omega
  rw [e2, show ∀ a b n : Int, a * (b % n) % n = a * b % n from fun a b n => by rw [Int.mul_emod, Int.emod_emod, ← Int.mul_emod]]
def fdP (p : Nat) [NeZero p] (h : p ∈ primesN) : Fd p :=
  have hp : 2 ≤ p := (prime_big p h).1
  { F := Fin p
    fld := mkField inferInstance (invF p) (fin_01 hp) (if_pos rfl) (invF_mul h)
    dec := inferInstance
    enc := encP p
    inj := fun x y e => by
      have e1 : ((x.val : Nat) : Int) = y.val := congrArg Prod.fst e
      exact Fin.ext (by omega)
    num := fun x => Or.inr ⟨p_ne hp, rfl, by
      show (0 : Int) ≤ (x.val : Int)
      omega, by
      have := x.isLt
      show (x.val : Int) < p
      omega⟩
    sur := fun q hq => by
      rcases hq with ⟨h0, _⟩ | ⟨_, h1, h2, h3⟩
      · exact absurd h0 (p_ne hp)
      · refine ⟨ofP p q.1, ?_⟩
        show (((ofP p q.1).val : Int), (1 : Int)) = q
        rw [ofP_val hp, Int.emod_eq_of_lt h2 h3, ← h1]
    zero := rfl
    one := by
      show (((1 % p : Nat) : Int), (1 : Int)) = (1, 1)
      rw [Nat.mod_eq_of_lt (by omega)]
      rfl
    add := fun x y => by
      unfold addN
      rw [if_pos (p_ne hp)]
      show ((((x + y : Fin p).val : Nat) : Int), (1 : Int)) = _
      rw [val_add_int]
      rfl
    mul := fun x y => by
      unfold mulN
      rw [if_pos (p_ne hp)]
      show ((((x * y : Fin p).val : Nat) : Int), (1 : Int)) = _
      rw [val_mul_int]
      rfl
    neg := fun x => by
      unfold negN
      rw [if_pos (p_ne hp)]
      show ((((-x : Fin p).val : Nat) : Int), (1 : Int)) = ((-(x.val : Int)) % p, 1)
      have hx := x.isLt
      have e : ((-x : Fin p).val) = (p - x.val) % p := rfl
      rw [e, Int.natCast_emod, Int.ofNat_sub (Nat.le_of_lt hx)]
      rw [Int.sub_eq_add_neg, Int.add_comm, Int.add_emod_right]
    inv := fun x hx => by
      show encP p (invF p x) = low p 1 x.val
      have ex : ofP p (x.val : Int) = x := ofP_eq hp (Int.emod_eq_of_lt (by omega) (by have := x.isLt; omega))
      rw [← low_p hp 1 (x.val : Int) (by rw [ex]; exact hx), ex]
      have e1 : ofP p 1 = 1 := ofP_eq hp (by
        show (1 : Int) % p = ((1 % p : Nat) : Int)
        simp)
      rw [e1]
      congr 1
      exact (Semiring.one_mul _).symm
    ofI := ofP p
    low := fun t b hb => low_p hp t b hb
    ofI0 := fun b => by
      rw [if_neg (p_ne hp)]
      have := ofP_val hp b
      constructor
      · intro e
        rw [e] at this
        exact this.symm
      · intro e
        exact ofP_eq hp e
    ofI_add := fun s t => by
      apply ofP_eq hp
      show (s + t) % (p : Int) = (((ofP p s + ofP p t : Fin p).val : Nat) : Int)
      rw [val_add_int, ofP_val hp, ofP_val hp, ← Int.add_emod]
    ofI_mul := fun s t => by
      apply ofP_eq hp
      show (s * t) % (p : Int) = (((ofP p s * ofP p t : Fin p).val : Nat) : Int)
      rw [val_mul_int, ofP_val hp, ofP_val hp, ← Int.mul_emod]
    ofI_one := ofP_eq hp (by
        show (1 : Int) % p = ((1 % p : Nat) : Int)
        simp)
    encI := fun z => by
      rw [if_neg (p_ne hp)]
      show (((ofP p z).val : Int), (1 : Int)) = _
      rw [ofP_val hp] }
theorem fd_ex {f : Int} (h : IsF f) : Nonempty (Fd f) := by
  rcases h with rfl | ⟨p, hp, rfl⟩
  · exact ⟨fdQ⟩
  · have : NeZero p := ⟨by have := (prime_big p hp).1; omega⟩
    exact ⟨fdP p hp⟩
/-! ### sizes of top and bottom -/
theorem fdiv_dvd_abs {t g : Int} (h : g ∣ t) (hg : g ≠ 0) : (t.fdiv g).natAbs ≤ t.natAbs := by
  obtain ⟨u, rfl⟩ := h
  rw [Int.mul_comm, Int.mul_fdiv_cancel _ hg, Int.natAbs_mul]
  have : 1 ≤ g.natAbs := by omega
  exact Nat.le_mul_of_pos_right _ this
theorem gOf_dvd (t b : Int) : gOf t b ∣ t ∧ gOf t b ∣ b := by
  have h1 : ((Nat.gcd t.natAbs b.natAbs : Nat) : Int) ∣ t := by
    rw [Int.ofNat_dvd_left]
    exact Nat.gcd_dvd_left _ _
  have h2 : ((Nat.gcd t.natAbs b.natAbs : Nat) : Int) ∣ b := by
    rw [Int.ofNat_dvd_left]
    exact Nat.gcd_dvd_right _ _
  unfold gOf
  split
  · exact ⟨Int.neg_dvd.mpr h1, Int.neg_dvd.mpr h2⟩
  · exact ⟨h1, h2⟩
theorem low0_le {t b : Int} (hb : b ≠ 0) : (low 0 t b).1.natAbs ≤ t.natAbs ∧ (low 0 t b).2.natAbs ≤ b.natAbs := by
  have hg : gOf t b ≠ 0 := by
    have h := (gOf_dvd t b).2
    intro e
    rw [e] at h
    exact hb (Int.zero_dvd.mp h)
  unfold low
  rw [if_neg (by simp)]
  exact ⟨fdiv_dvd_abs (gOf_dvd t b).1 hg, fdiv_dvd_abs (gOf_dvd t b).2 hg⟩
theorem isN_low0 {t b : Int} (hb : b ≠ 0) : IsN 0 (low 0 t b) := by
  rw [← encQ_low hb]
  exact fdQ.num _
end St
namespace PySem.W
open PySem PySem.Spec PySem.Calls PyProof.Rows Builtin Builtin.ObjectAttr Builtin.Getset_descriptor
section
variable {prog : Program} {w : World} {A : Around} {E : Value → Shared → Prop} {s : Shared} {K : Frag}
/-- self.__class__, self an exception that is being made -/
theorem st_class {x C : Addr} {ox : Obj} {expr : Bool} {Q : Value → Shared → Prop} (T : L2.ExcC K C) (X : K.In s.heap) (I : InstAt s.heap x ox C none) (h : Q (.ref C) { s with toks := s.toks + 1 }) :
    wpAny (model prog w) A (getAttr (.ref x) "__class__" expr) Q E s := by
  have some1 : (clsIn K C).isSome = true := by
    obtain ⟨cd, hc, _⟩ := any_some T.hd
    rw [hc]
    rfl
  have found := findObj_dataN some1 T.ha T.hn T.ht
  obtain ⟨hh, g, dr, tk, os⟩ := s
  have l0 := I.type (M := model prog w)
  have l1 := looks_findIn (M := model prog w) X T.hg
  have l2 := looks_findIn (M := model prog w) X T.hk
  have l3 := looks_find (M := model prog w) X I found
  have isB : Looks (model prog w) hh (isInstance (.ref x) (.type "BaseException")) true := l0.andThen (looks_subIn X T.hs)
  have ne1 : (Value.builtin "BaseException.__getattribute__" == Value.builtin "object.__getattribute__") = false := by decide +kernel
  have b0 : (expr && onTheHeap (Value.builtin "BaseException.__getattribute__")) = false := by
    cases expr <;> rfl
  have b1 : (onTheHeap (Value.ref C) && Value.builtin "BaseException.__getattribute__" == Value.builtin "object.__getattribute__") = false := by
    rw [ne1]
    rfl
  unfold getAttr getAttrBy
  refine wpAny_bind (wpAny_mkText (wpAny_holding (wpAny_bind (l0.at (wpAny_bind (l1.at ?_))))))
  dsimp only
  rw [b1, if_neg Bool.false_ne_true]
  unfold getAttrByItsOwn
  refine wpAny_bind ?_
  unfold hookBefore
  rw [if_pos (show onTheHeap (Value.ref C) = true from rfl)]
  refine l2.at (wpAny_bind (wpAny_attempt (wpAny_holding ?_)))
  unfold callGetattribute
  rw [b0, if_neg Bool.false_ne_true]
  unfold boundAndCalled
  rw [PySem.F.excAttr_ValueError.ga.bind (.ref x)]
  refine wpAny_bind (wpAny_pure ?_)
  refine wpAny_call (codeAny_call_builtin (args := ⟨[.ref x, .str "__class__" tk], []⟩) PySem.F.excAttr_ValueError.ga.plain PySem.F.entry_bexc_ga ?_)
  refine @check_slot (model prog w) _ _ ⟨hh, g, dr, tk + 1, os⟩ "BaseException.__getattribute__" "BaseException" "__getattribute__" (.ref x) [.str "__class__" tk] [] _ (by decide +kernel) (by decide +kernel) isB (PySem.F.args_bexc_ga _ _) ?_
  unfold Builtin.«object.__getattribute__»
  refine wpAny_bind (wpAny_of_eq (a := ((Value.ref x : Value), [Value.str "__class__" tk])) (by first | rfl | (simp only [slotArgs]; rfl)) ?_)
  refine wpAny_bind (wpAny_pure (wpAny_bind (l0.at (wpAny_bind (l3.at ?_)))))
  dsimp only
  refine wpAny_bind (wpAny_holding (wpAny_call (class_get (s := ⟨hh, g, dr, tk + 1, os⟩) (ox := ox) (od := none) X I T.hm ?_)))
  refine wpAny_pure ?_
  show wpAny _ _ (handedOut (.ref C)) _ _ _
  rw [handedOut_of (v := .ref C) rfl]
  first
    | exact wpAny_pure h
    | exact wpAny_pure (wpAny_pure h)
/-- C.__name__, C a class of the program -/
theorem st_dga (d tp : Value) (C : Addr) : descrGetArgs ⟨[d, .ref C, tp], []⟩ = pure (d, some (.ref C), given tp) := by kernel_rfl
theorem st_name_get {C : Addr} {tp nv : Value} {ob : Obj} {R : Result → Shared → Prop} (X : K.In s.heap) (ht : typeIn K (.ref C) = some (.type "type")) (ho : s.heap.get? C = some ob) (hs : ob.slots[2]? = some (some nv))
    (h : R (.ok (.ret nv)) s) : codeAny (model prog w) A (.call (.builtin "getset_descriptor.__get__") ⟨[.builtin "type.__name__", .ref C, tp], []⟩) R s := by
  obtain ⟨hh, g, dr, tk, os⟩ := s
  have L0 : Looks (model prog w) hh (typeOf (.ref C)) (.type "type") := looks_typeIn X ht
  have L1 : Looks (model prog w) hh (isSubtype (.type "type") (.type "type")) true := Looks.of_pure (by rw [isSubtype_type]; kernel_rfl)
  refine codeAny_call_builtin KF.slot_gs.plain KF.entry_gs (KF.slot_gs.check _ _ _ _ _ _ _ _ ktyn_type (KF.args_gs _ _ _) ?_)
  unfold Builtin.«getset_descriptor.__get__» descrGet
  rw [st_dga]
  refine wpAny_bind (wpAny_pure ?_)
  unfold descrGetter descrCheckInstance descrNameAndClass isInstance
  simp only [ktyn_owner]
  repeat lk
  refine ⟨Code.quiet_builtin _ (by decide +kernel), codeAny_builtin ktyn_entry ?_⟩
  unfold Builtin.«type.__name__»
  dsimp only
  unfold keptObject slotAt
  have e : (ob.slots[2]?).join = some nv := by rw [hs]; rfl
  refine wpAny_bind (wpAny_bind (wpAny_loadPart_at ho (wpAny_pure ?_)))
  rw [e]
  first
    | exact wpAny_pure h
    | exact wpAny_bind (wpAny_pure (wpAny_pure h))
    | exact wpAny_bind (wpAny_pure h)
end
end PySem.W
namespace L2
open PySem PySem.Spec PyProof.Rows
/-! ### try with several clauses «except C as n», all of one name n -/
abbrev Clause := Value × (Addr → Value → Option Addr → TS)
/-- the ends of a suite that had the name in slot i: it is empty behind -/
def endsOff (i : Nat) (D : Ends) : Ends := { nx := fun σ H => D.nx (σ.set i none) H, rt := D.rt, bk := fun σ H => D.bk (σ.set i none) H, ct := fun σ H => D.ct (σ.set i none) H }
def wClauses (K : PySem.W.Frag) (i : Nat) (W0 : WX) (D : Ends) : List Clause → WX
  | [] => W0
  | p :: r => fun cls d σ H => ∃ b, PySem.W.exmOne K cls p.1 = some b ∧ (b = true → ∀ a, H a = none → p.2 a cls d (endsOff i D) (σ.set i (some (.ref a))) H) ∧ (b = false → wClauses K i W0 D r cls d σ H)
inductive ClausesOk (X : Cx) (n : Str) : List ExceptHandler → List Clause → Prop
  | nil : ClausesOk X n [] []
  | cons {x : Str} {c : Value} {ts : Addr → Value → Option Addr → TS} {st0 : Stmt} {sts : List Stmt} {p1 p2 : Pos} {hds : List ExceptHandler} {l : List Clause} (hc : Names X x c)
      (hsu : ∀ (a : Addr) (oe : Obj) (cls : Value) (d : Option Addr) (pn : List (Addr × Obj)), Zc cls d oe → (∃ vs, oe.data = .fields vs) → PSs (X.suite a ((a, oe) :: pn)) (st0 :: sts) (ts a cls d))
      (r : ClausesOk X n hds l) : ClausesOk X n (.ExceptHandler (some (.Name x p1)) (some n) (st0 :: sts) p2 :: hds) ((c, ts) :: l)
section
variable {X : Cx} {n : Str} {i : Nat} {body : List Stmt} {hd0 : ExceptHandler} {hds : List ExceptHandler} {l : List Clause} {pos : Pos} {tb : WX → TS} {W0 : WX}
theorem ps_try_clauses (hst : X.stack = X.env :: X.outer) (hfm : X.env.frame = some X.env.locals) (hnd : X.N.Nodup) (hi : X.N[i]? = some n) (hln : X.env.kindOf n = some .local) (tk : Takes X W0)
    (hb : ∀ (W : WX) (pn : List (Addr × Obj)) (xe : Value → Shared → Prop), Takes (X.tr pn xe) W → PassesOwn (model X.prog X.w) X.A X.env xe → PSs (X.tr pn xe) body (tb W))
    (hh : ClausesOk X n (hd0 :: hds) l) : PS X (.Try body (hd0 :: hds) [] [] pos) (fun D σ H => tb (wClauses X.K i W0 D l) D σ H) := by
  refine ⟨fun pins st σ H D Iv hyp => ?_⟩
  have okX := Iv.ok
  have frs1 : X.A.frames = some (X.env :: X.outer) := by
    rw [okX.frames]
    rw [hst]
  have locN : Loc X.env.scope n := .inl hln
  refine wpAny_Try_except (wpAny_mono ((hb (wClauses X.K i W0 D l) (X.pn ++ pins) (fun ev t1 => wpAny (model X.prog X.w) X.A (noteFrame ev X.env)
    (fun _ t2 => wpAny (model X.prog X.w) X.A (setFlight ev none) (fun _ t3 => wpAny (model X.prog X.w) X.A (handleBy ev X.env (hd0 :: hds)) (SP X pins D) X.xe t3) X.xe t2) X.xe t1)
    (fun uv t0 caught => ?_) PassesOwn.looking).run [] st σ H D (Iv.toTry _) hyp) (fun fl t1 sp1 => ?_) (fun _ _ z => z))
  · obtain ⟨ea, Gr, tI, pins2, σ2, H2, cls, dd, rfl, Jt, nbare, upb, skyb, nea, osb, agb, wish⟩ := caught
    have Jv : Inv X pins σ2 H2 tI := Jt.ofTry okX
    have sky2 : Sky Gr (X.env :: X.outer) ea (Zc cls dd) X.env.locals t0.heap := by
      rw [← hst]
      exact skyb
    refine Sky.land Zc.steady frs1 hfm sky2 fun g3 fly3 up3 => ?_
    have Jv3 : Inv X pins σ2 H2 { t0 with heap := g3 } := Jv.landed nbare fly3.1 (upb.trans up3) osb agb
    obtain ⟨o3, f3, get3, zc3, dat3⟩ := fly3.there
    have nfr : ea ∉ frs (X.env :: X.outer) := fun hm => by
      obtain ⟨_, oq, eq', hq⟩ := fly3.2.2.1.mem hm
      rw [get3] at eq'
      cases eq'
      exact hq _ dat3
    have nLoc : ea ≠ X.env.locals := fun z => nfr (List.mem_filterMap.mpr ⟨X.env, List.mem_cons_self, by rw [hfm, z]⟩)
    have nFs : ea ∉ X.fs := fun hm => by
      obtain ⟨ev, hev, q⟩ := List.mem_filterMap.mp hm
      exact nfr (List.mem_filterMap.mpr ⟨ev, List.mem_cons_of_mem _ hev, q⟩)
    have Sv3 := Jv3.suite get3 dat3 nea nLoc nFs
    have run : ∀ {hq : List ExceptHandler} {lq : List Clause}, ClausesOk X n hq lq → wClauses X.K i W0 D lq cls dd σ2 H2 → wpAny (model X.prog X.w) X.A (handleBy (.ref ea) X.env hq) (SP X pins D) X.xe { t0 with heap := g3 } := by
      intro hq lq hk
      induction hk with
      | nil =>
        intro wq
        refine wpAny_handleBy_nil ?_
        obtain ⟨_, _, _, oq, vq, T, oT, tq, geq, zq, dq, h1q, hrq⟩ := id fly3
        unfold PySem.passOn
        refine wpAny_bind (wpAny_field geq dq h1q ?_)
        rw [if_neg (show ¬ ((Value.ref T == Value.none) = true) by simp)]
        have out : wpAny (model X.prog X.w) X.A (setFlight (.ref ea) X.env.frame) (fun _ t4 => wpAny (model X.prog X.w) X.A (throw (.ref ea) : Sem Flow) (SP X pins D) X.xe t4) X.xe { t0 with heap := g3 } := by
          rw [hfm]
          refine HandSPX.setFlight_upZ fly3 fun g4 hg4 up4 => wpAny_throw (tk _ _ ?_)
          exact ⟨ea, Gr, tI, pins, σ2, H2, cls, dd, rfl, Jv, nbare, (upb.trans up3).trans up4, .inr (.inr (by rw [hst]; exact hg4)), nea, osb, agb, wq⟩
        first
          | exact wpAny_bind out
          | exact wpAny_bind (wpAny_pure (wpAny_bind out))
      | @cons xq cq tsq stq stsq p1 p2 hdq lq hcq hsq rq ih =>
        intro wq
        obtain ⟨b, eb, yes, no⟩ := wq
        refine wpAny_handleBy_cons (codeAny_handlers_test ?_) (fun q => by cases q)
        have lookT : PySem.W.Looks (model X.prog X.w) g3 (typeOf (.ref ea)) cls := fun A1 Q1 E1 s1 kq qq => wpAny_typeOf_ref (kq _ _ get3) (by rw [zc3.1]; exact qq)
        have lookM := PySem.W.exm_one (M := model X.prog X.w) Jv3.kIn lookT eb
        have named : ∀ {Q1 E1 : Value → Shared → Prop}, Q1 cq { t0 with heap := g3 } → wpAny (model X.prog X.w) (X.A.mark (some (.ref ea))) (eval (.Name xq p1) X.env) Q1 E1 { t0 with heap := g3 } := by
          intro Q1 E1 qq
          obtain ⟨g1, g2, g4 | ⟨g4, g5, g6⟩⟩ := hcq
          · exact ld_glob (X := X.suite ea ((ea, o3) :: (X.pn ++ pins))) Sv3 g1 g4 qq g2
          · exact ld_blt (X := X.suite ea ((ea, o3) :: (X.pn ++ pins))) Sv3 g1 g4 g5 qq g6 g2
        refine named (lookM.here ?_)
        cases b with
        | false =>
          show wpAny _ X.A (handleBy (.ref ea) X.env hdq) _ _ _
          exact ih (no rfl)
        | true =>
          refine codeAny_handlers_suite_as (HandSPX.lands_againZ fly3 fun g4 fly4 up4 => ?_)
          have Jv4 : Inv X pins σ2 H2 { t0 with heap := g4 } := Jv.landed nbare fly4.1 ((upb.trans up3).trans up4) osb agb
          obtain ⟨o4, f4, get4, zc4, dat4⟩ := fly4.there
          have Sv4 := Jv4.suite get4 dat4 nea nLoc nFs
          refine store_ok (X := X.suite ea ((ea, o4) :: (X.pn ++ pins))) (v := .ref ea) Sv4 hnd hi locN rfl (fun t5 Sv5 => ?_) (.inr hln)
          refine wpAny_mono ((hsq ea o4 cls dd (X.pn ++ pins) zc4 ⟨_, dat4⟩).run [] t5 _ H2 _ Sv5 (yes rfl ea nea)) (fun fl t6 sp6 => ?_) (fun _ _ z => z.elim)
          have off : ∀ {σ6 : St} {H6 : Hp} {Q : Shared → Prop}, Inv (X.suite ea ((ea, o4) :: (X.pn ++ pins))) [] σ6 H6 t6 → (∀ t7, Inv X pins (σ6.set i none) H6 t7 → Q t7) →
              wpAny (model X.prog X.w) X.A (do bindName X.env n .none; unbindBehindTheSuite X.env n p2) (fun _ t7 => Q t7) X.xe t6 := fun {_ _ _} S6 hq => gone_ok (S6.unsuite okX) hnd hi hln hq
          cases fl with
          | ret u =>
            obtain ⟨v6, σ6, H6, S6, r6, q6⟩ := sp6
            exact off S6 fun t7 J7 => ⟨_, _, _, J7, r6, q6⟩
          | next =>
            obtain ⟨σ6, H6, S6, q6⟩ := sp6
            exact off S6 fun t7 J7 => ⟨_, _, J7, q6⟩
          | brk =>
            obtain ⟨σ6, H6, S6, q6⟩ := sp6
            exact off S6 fun t7 J7 => ⟨_, _, J7, q6⟩
          | cont =>
            obtain ⟨σ6, H6, S6, q6⟩ := sp6
            exact off S6 fun t7 J7 => ⟨_, _, J7, q6⟩
    exact run hh wish
  · cases fl with
    | ret u =>
      obtain ⟨v1, σ1, H1, J1, r1, q1⟩ := sp1
      exact ⟨v1, σ1, H1, J1.ofTry okX, r1, q1⟩
    | next =>
      obtain ⟨σ1, H1, J1, q1⟩ := sp1
      exact wpAny_execs_nil ⟨σ1, H1, J1.ofTry okX, q1⟩
    | brk =>
      obtain ⟨σ1, H1, J1, q1⟩ := sp1
      exact ⟨σ1, H1, J1.ofTry okX, q1⟩
    | cont =>
      obtain ⟨σ1, H1, J1, q1⟩ := sp1
      exact ⟨σ1, H1, J1.ofTry okX, q1⟩
end
/-! ### self.__class__ and C.__name__ -/
structure CName (K : PySem.W.Frag) (C : Addr) (nm : Str) : Prop where
  ht : PySem.W.typeIn K (.ref C) = some (.type "type")
  hr : PySem.W.readsIn K C (.type "type") = true
  hf : PySem.W.findCls K (.ref C) (.type "type") "__name__" = some (.get (.builtin "getset_descriptor.__get__") (.builtin "type.__name__") (.ref C) (.type "type"))
  ob : ∃ (ob : Obj) (tk : Tok), K.lookup C = some ob ∧ ob.slots[2]? = some (some (.str nm tk))
def tClassOf (K : PySem.W.Frag) (te : TE) : TE := fun σ H Q => te σ H fun x H1 => ∃ a C : Addr, x = .ref a ∧ H1 a = some (exo a C none) ∧ ExcC K C ∧ Q (.ref C) H1
def tNameOf (K : PySem.W.Frag) (te : TE) : TE := fun σ H Q => te σ H fun x H1 => ∃ (C : Addr) (nm : Str), x = .ref C ∧ CName K C nm ∧ Q (.str nm) H1
section
variable {X : Cx} {e : Expr} {te : TE} {pos : Pos}
theorem pe_classOf (he : PE X e te) (hb : attributeBase e "__class__" X.env (eval e X.env) = eval e X.env := by rfl) : PE X (.Attribute e "__class__" pos) (tClassOf X.K te) := by
  refine ⟨fun pins s σ H Q I h => ?_⟩
  refine attr_of hb (thn (he.run pins s σ H _ I h) fun u s1 ⟨x, H1, I1, rx, a, C, ex, ea, T, q⟩ => ?_)
  subst ex
  obtain rfl : u = Value.ref a := rx
  obtain ⟨t1, ho⟩ := exo_at I1.hok ea
  exact PySem.W.st_class T I1.kIn (ox := { cls := .ref C, dict := none, data := .fields #[.ref t1, .none, .none, .none, .bool false, .none] }) ⟨ho, rfl, rfl, trivial⟩ ⟨.ref C, H1, I1.tok _, rfl, q⟩
theorem pe_nameOf (he : PE X e te) (hb : attributeBase e "__name__" X.env (eval e X.env) = eval e X.env := by rfl) : PE X (.Attribute e "__name__" pos) (tNameOf X.K te) := by
  refine ⟨fun pins s σ H Q I h => ?_⟩
  refine attr_of hb (thn (he.run pins s σ H _ I h) fun u s1 ⟨x, H1, I1, rx, C, nm, ex, T, q⟩ => ?_)
  subst ex
  obtain rfl : u = Value.ref C := rx
  obtain ⟨ob, tk, ho, hs⟩ := T.ob
  refine PySem.W.cls_bind I1.kIn T.hr T.hf (wpAny_call (PySem.W.st_name_get (s := { s1 with toks := s1.toks + 1 }) I1.kIn T.ht (I1.kIn _ _ ho) hs ?_))
  exact PySem.W.handed_on rfl ⟨.str nm, H1, I1.tok _, ⟨_, rfl⟩, q⟩
end
end L2
namespace LamX
open PySem PySem.Spec PyProof.Rows L2
section
variable {X : Cx} {pins : List (Addr × Obj)} {σ : L2.St} {H : Hp} {s : Shared}
/-- a(), a the lambda that was got; what it lets out is wished for at the slots as they stand then -/
theorem pe_askS {CXg : CXT} {Eg : XK} {Ng : List Str} {qg : Str} {sg : Scope} {g f c' : Addr} {cdg pm ctv : Value} {params : Arguments} {body : Expr} {scope : Scope} {k i : Nat} {a : Str} {pn : List (Addr × Obj)} {xe : Value → Shared → Prop} {W : WX} {tb : XK → TE} {p1 p2 : Pos}
    (Iv : Inv X pins σ H s) (L : LamS X.env.scope scope) (hf : s.heap.get? f = some (PySem.W.kla_obj "<lambda>" (X.env.qual ++ "<lambda>") params body scope (cloFrom X.env.cells scope.names []) pm c' ctv)) (hfn : H f = none) (hfr : f ∉ frs X.stack)
    (hbind : bindArgs (PySem.W.kla_fn "<lambda>" (X.env.qual ++ "<lambda>") params body scope (cloFrom X.env.cells scope.names []) pm (.ref c') ctv) ⟨[], []⟩ = pure [])
    (tk : Takes ((cxOf CXg X.prog X.w X.K X.mg X.base Ng qg sg g cdg X.A X.stack s H Eg).tr pn xe) W) (hr : Room (k + 1) (X.A.deeper (envOfC qg sg s.heap.objs.size g cdg)))
    (hbody : ∀ (A : Around) (outer : List Env) (s : Shared) (H : Hp) (E : XK), Room k (A.deeper (lamEnv X scope s.heap.objs.size f c')) → PE (lamCx X A outer s H E scope f c') body (tb E))
    (hN : Ng[i]? = some a) (hv : Vis sg a) (hd : (a == ("__debug__" : Str)) = false := by decide) (hcd : (a == ("__classdict__" : Str)) = false := by decide) :
    PE ((cxOf CXg X.prog X.w X.K X.mg X.base Ng qg sg g cdg X.A X.stack s H Eg).tr pn xe) (.Call (.Name a p1) [] [] p2)
      (fun σ0 H0 Q => σ0[i]? = some (some (.ref f)) ∧ H0 c' = some (CodeO c' (X.env.qual ++ "<lambda>")) ∧ tb (WE W σ0) σ H0 Q) := by
  refine ⟨fun pins0 s0 σ0 H0 Q I0 hyp => ?_⟩
  obtain ⟨hsl, hco, hread⟩ := hyp
  refine wpAny_Call_Name_kw (thn ((pe_var (pos := p1) (i := i) hN hv hd hcd).run pins0 s0 σ0 H0 (fun v H1 => v = .ref f ∧ H1 = H0) I0 ⟨.ref f, hsl, rfl, rfl⟩) fun u s1 got => ?_)
  obtain ⟨v, H1, I1, rel1, ev, eH⟩ := got
  subst ev
  rw [eH] at I1
  obtain rfl : u = Value.ref f := rel1
  have at1 : s1.heap.get? f = some (PySem.W.kla_obj "<lambda>" (X.env.qual ++ "<lambda>") params body scope (cloFrom X.env.cells scope.names []) pm c' ctv) :=
    I1.base.keep f _ hf hfn hfr (fun z => by cases z)
  refine PySem.W.callWith_F0 ⟨_, _, _, _, at1⟩ ?_
  have base1 : Un (frs X.stack) [] H H0 s.heap s1.heap := I1.base
  obtain ⟨⟨oc, vs, tt, hoc, hdc, hvc⟩, _, _⟩ := I1.hok c' _ hco
  have runs : codeAny (model X.prog X.w) (X.A.deeper (envOfC qg sg s.heap.objs.size g cdg)) (.call (.ref f) ⟨[], []⟩)
      (CR (L2.CX X.prog X.w) (envOfC qg sg s.heap.objs.size g cdg :: X.stack) X.prog X.w H0 s1 Q (WE W σ0)) s1 := by
    refine PySem.W.kla_callFunE hr.depth at1 rfl L.co L.gen rfl ⟨c', oc, vs, tt, rfl, hoc, hdc, hvc⟩ ?_
    rw [hbind]
    refine wpAny_pure (wpAny_newFunctionEnv (fun y hy => (L.own y hy).2) (fun y hy => by cases hy) (fun h1 hns hsb => ⟨I1.nolimit.fresh _ hsb, ?_⟩) L.kind)
    show codeAny _ _ (.expr body (lamEnv X scope s1.heap.objs.size f c')) _ _
    have keeps1 : ∀ b o, s1.heap.get? b = some o → h1.get? b = some o := fun b o e =>
      hsb.extBut b o (Nat.ne_of_lt (Heap.lt_size e)) (Heap.get?_push_of_some _ e)
    have J := lam_start2 (E := WE W σ0) (c' := c') (f := f) (h₁ := h1) (tk := s1.toks + ([] : List (Str × Value)).length) Iv L I1.env0 hr.hd base1 hns keeps1
    refine PySem.W.kla_codeExpr (wpAny_mono ((hbody _ _ s1 H0 (WE W σ0) (hr.deeper _)).run [] _ _ H0 Q J hread) (fun v2 s2 q2 => ?_) fun _ _ q => q)
    obtain ⟨w2, H2, J2, rel2, q3⟩ := q2
    exact ⟨w2, H2, J2.os, J2.bare, J2.base, J2.hok, rel2, q3⟩
  refine wpAny_call (codeAny_mono runs fun r s2 hq => ?_)
  cases r with
  | error e => exact passAt tk σ0 pins0 H0 s1 e s2 I1 hq
  | ok fl =>
    cases fl with
    | ret u => exact I1.after hq
    | next => exact False.elim hq
    | brk => exact False.elim hq
    | cont => exact False.elim hq
end
/-- the def that asks what it got: a asks; TT: what it makes of the lambda's reading -/
def AsksOf (X : Cx) (Ng : List Str) (x : Str) (sg : Scope) (g : Addr) (cdg : Value) (bg : List Stmt) (a : Str) (q : Str) (TT : (XK → Hp → VK → Prop) → Hp → VK → Prop) : Prop :=
  ∀ (f c' : Addr) (s : Shared) (H : Hp) (Q : VK) (tl : XK → Hp → VK → Prop),
    (∀ (W : WX) (pn : List (Addr × Obj)) (xe : Value → Shared → Prop) (p1 p2 : Pos), Takes ((cxOf C8.CX0 X.prog X.w X.K X.mg X.base Ng x sg g cdg X.A X.stack s H C8.E0).tr pn xe) W →
      PE ((cxOf C8.CX0 X.prog X.w X.K X.mg X.base Ng x sg g cdg X.A X.stack s H C8.E0).tr pn xe) (.Call (.Name a p1) [] [] p2) (fun σ0 H0 Q => σ0[0]? = some (some (.ref f)) ∧ H0 c' = some (CodeO c' q) ∧ tl (WE W σ0) H0 Q)) →
    H c' = some (CodeO c' q) → TT tl H Q →
    ∃ t, PSs (cxOf C8.CX0 X.prog X.w X.K X.mg X.base Ng x sg g cdg X.A X.stack s H C8.E0).nox bg t ∧ t { nx := fun _ H' => Q .non H', rt := Q } (L2.start Ng [.ref f]) H
section
variable {X : Cx}
/-- x(lambda: body), by slots -/
theorem pe_lamS {T : List (Addr × Str)} {TT : (XK → Hp → VK → Prop) → Hp → VK → Prop} {x a : Str} {g c P : Addr} {k : Nat} {pg : Arguments} {bg : List Stmt} {sg : Scope} {dV kV doc pm cdv ct oc : Value} {an od : Option Addr} {osl : Array (Option Value)} {Ng : List Str}
    {params : Arguments} {body : Expr} {scope : Scope} {t : XK → TE} {p lpos pos : Pos} (hg : Gl X x) (hm : X.mg x = some (.ref g)) (hk : PySem.W.keepIn X.K (.ref g) = true)
    (lk : X.K.lookup g = some ⟨oc, od, .func (PySem.W.fnOf x x pg bg sg dV kV doc pm an cdv ct), osl⟩) (hcg : PySem.W.codeIn X.K cdv x = true) (hb : L2.Binds X.K (PySem.W.fnOf x x pg bg sg dV kV doc pm an cdv ct) [a] []) (Sg : FnScope Ng [a] sg) (hNg : Ng[0]? = some a) (hva : Vis sg a)
    (hG : AsksOf X Ng x sg g cdv bg a (X.env.qual ++ "<lambda>") TT)
    (TB : TabB X.base X.mg c P) (hcode : X.env.code = .ref c) (hmT : (P, X.env.qual ++ "<lambda>") ∈ T) (hu : ∀ p ∈ T, p.1 = P → p.2 = X.env.qual ++ "<lambda>") (hr : Room (k + 2) X.A) (L : LamS X.env.scope scope) (hdef : defaultsOf params X.env = ([], []))
    (hbind : ∀ (q : Str) (cl : List (Str × Addr)) (pm cv ctv : Value), bindArgs (PySem.W.kla_fn "<lambda>" q params body scope cl pm cv ctv) ⟨[], []⟩ = pure [])
    (hbody : ∀ (A : Around) (outer : List Env) (s : Shared) (H : Hp) (E : XK) (f c' : Addr), Room k (A.deeper (lamEnv X scope s.heap.objs.size f c')) → PE (lamCx X A outer s H E scope f c') body (t E))
    (hdb : (x == ("__debug__" : Str)) = false := by decide) (hd : (a == ("__debug__" : Str)) = false := by decide) (hcd : (a == ("__classdict__" : Str)) = false := by decide) :
    PE X (.Call (.Name x p) [.Lambda params body scope lpos] [] pos) (tLam T TT t) := by
  refine ⟨fun pins s σ H Q Iv hyp => ?_⟩
  obtain ⟨tabs, rest⟩ := hyp
  refine wpAny_Call_Name_kw (ld_glob Iv hg hm (PySem.W.callWith_K (h₀ := X.base) Iv.ok.mod.kin hk ?_ (by rfl) (by rfl)) hdb)
  show wpAny _ _ (spliced ((false, eval (.Lambda params body scope lpos) X.env) :: backTo pos (starEach [] X.env))) _ _ s
  refine Calls.spliced_cons (lam_make2 Iv TB hcode hmT hu tabs hdef (L.has Iv.ok) fun f c' pm2 ctv2 H1 s1 I1 ext1 tabs1 hf hfn hfr hco => ?_)
  refine Calls.spliced_nil ⟨I1.kIn, ?_⟩
  have runs : codeAny (model X.prog X.w) X.A (.call (.ref g) ⟨[.ref f], []⟩) (CR C8.CX0 X.stack X.prog X.w H1 s1 Q C8.E0) s1 := by
    refine run_ofS (N := Ng) (ps := [a]) (us := [.ref f]) (vs := [.ref f]) lk hcg Sg hr I1.env0 (hb s1 [.ref f] I1.kIn rfl) (.cons rfl .nil) rfl fun hr2 => ?_
    obtain ⟨t2, ht2, hq2⟩ := hG f c' s1 H1 Q (fun E H' Q' => t E σ H' Q')
      (fun W pn xe p1 p2 tk => pe_askS (i := 0) I1 L hf hfn hfr (hbind _ _ _ _ _) tk hr2 (fun A outer s H E hr3 => hbody A outer s H E f c' hr3) hNg hva hd hcd) hco (rest H1 ext1 tabs1)
    exact ⟨t2, ht2.nox, hq2⟩
  refine wpAny_call (codeAny_mono runs fun r s2 hq => ?_)
  cases r with
  | error e => exact (show False from hq).elim
  | ok fl =>
    cases fl with
    | ret u => exact I1.after hq
    | next => exact False.elim hq
    | brk => exact False.elim hq
    | cont => exact False.elim hq
end
end LamX
namespace L2
open PySem PySem.Spec PyProof.Rows
/-- n of a caught error of an own class, whichever class -/
def tErrF (K : PySem.W.Frag) (a : Addr) (cls : Value) (d : Option Addr) (n : Str) (te : TE) : TE := fun σ H Q => te σ H fun x H1 => x = .ref a ∧ ∃ (C dd : Addr) (fs : List (Str × V)) (v : V), cls = .ref C ∧ XfC K C ∧ PySem.W.findIn K (.ref C) n = some none ∧ d = some dd ∧ H1 dd = some (.xd fs) ∧ fs.lookup n = some v ∧ Q v H1
theorem pe_errF {X : Cx} {a : Addr} {oe : Obj} {cls : Value} {d : Option Addr} {pn : List (Addr × Obj)} {e : Expr} {te : TE} {pos : Pos} {n : Str} (hz : Zc cls d oe) (hf : ∃ vs, oe.data = .fields vs)
    (he : PE (X.suite a ((a, oe) :: pn)) e te) (hb : attributeBase e n X.env (eval e X.env) = eval e X.env := by rfl) : PE (X.suite a ((a, oe) :: pn)) (.Attribute e n pos) (tErrF X.K a cls d n te) := by
  refine ⟨fun pins s σ H Q Iv hyp => attr_of hb (thn (he.run pins s σ H _ Iv hyp) fun u s1 got => ?_)⟩
  obtain ⟨x, H1, I1, rx, ex, C, dd, fs, v, ec, T, hno, ed, ea, l, q⟩ := got
  subst ex ec ed
  obtain rfl : u = Value.ref a := rx
  obtain ⟨mem, _⟩ := I1.pin (a, oe) (List.mem_append_left _ List.mem_cons_self)
  obtain ⟨vs, hdat⟩ := hf
  have hxd : ObjOk X.prog X.w H1 s1.heap dd (.xd fs) := I1.hok dd _ ea
  obtain ⟨mA, hns, rel⟩ := hxd
  obtain ⟨od, hod, hl⟩ := lookIn_ns hns
  obtain ⟨u2, hu2, ru2⟩ := RelO.some_of (v := v) (o := mA n) (by rw [← l]; exact rel n)
  have inst : PySem.W.InstAt s1.heap a oe C (some od) := by
    refine ⟨mem, hz.1, ?_, ?_⟩
    · unfold PySem.W.notCls
      rw [hdat]
    · rw [hz.2]
      exact hod
  exact HandSPX.exc_get I1.kIn inst T.ga T.gg T.exC (PySem.W.findObj_own T.hdC hno rfl (by rw [hl, hu2])) (handed_of ru2) ⟨v, H1, I1.tok _, ru2, q⟩
end L2

namespace St
open PySem PySem.Spec PyProof.Rows L2
def topS (i : Nat) : Stmt := PySem.Challenge.pw_stalkweb_k02_sums_and_products.main.body.getD i (.Pass ⟨0, 0, 0, 0⟩)
abbrev s__law_open : Stmt := topS 26
theorem sc__law_open : FnScope ["_law_script", "_law_seed", "_law_cell"] ["_law_script"] (defScope s__law_open) := ⟨rfl, rfl, rfl, by decide +kernel, rfl, by decide +kernel, by decide +kernel⟩
abbrev s__law_draw : Stmt := topS 27
theorem sc__law_draw : FnScope ["_law_box", "_law_many", "_law_cell", "_law_got", "_law_base"] ["_law_box", "_law_many"] (defScope s__law_draw) := ⟨rfl, rfl, rfl, by decide +kernel, rfl, by decide +kernel, by decide +kernel⟩
abbrev s__law_any : Stmt := topS 28
theorem sc__law_any : FnScope ["_law_box", "_law_some"] ["_law_box", "_law_some"] (defScope s__law_any) := ⟨rfl, rfl, rfl, by decide +kernel, rfl, by decide +kernel, by decide +kernel⟩
abbrev s__law_primes : Stmt := topS 32
theorem sc__law_primes : FnScope [] [] (defScope s__law_primes) := ⟨rfl, rfl, rfl, by decide +kernel, rfl, by decide +kernel, by decide +kernel⟩
abbrev s__law_field : Stmt := topS 33
theorem sc__law_field : FnScope ["_law_box"] ["_law_box"] (defScope s__law_field) := ⟨rfl, rfl, rfl, by decide +kernel, rfl, by decide +kernel, by decide +kernel⟩
abbrev s__law_gcd : Stmt := topS 34
theorem sc__law_gcd : FnScope ["_law_one", "_law_other"] ["_law_one", "_law_other"] (defScope s__law_gcd) := ⟨rfl, rfl, rfl, by decide +kernel, rfl, by decide +kernel, by decide +kernel⟩
abbrev s__law_num : Stmt := topS 35
theorem sc__law_num : FnScope ["_law_field_here", "_law_top", "_law_bottom", "_law_k", "_law_part"] ["_law_field_here", "_law_top", "_law_bottom"] (defScope s__law_num) := ⟨rfl, rfl, rfl, by decide +kernel, rfl, by decide +kernel, by decide +kernel⟩
abbrev s__law_number : Stmt := topS 39
theorem sc__law_number : FnScope ["_law_box", "_law_field_here", "_law_pick", "_law_top", "_law_bottom"] ["_law_box", "_law_field_here"] (defScope s__law_number) := ⟨rfl, rfl, rfl, by decide +kernel, rfl, by decide +kernel, by decide +kernel⟩
abbrev s__law_great : Stmt := topS 43
theorem sc__law_great : FnScope ["_law_box", "_law_field_here", "_law_top", "_law_bottom", "_law_k"] ["_law_box", "_law_field_here"] (defScope s__law_great) := ⟨rfl, rfl, rfl, by decide +kernel, rfl, by decide +kernel, by decide +kernel⟩
abbrev s__law_odd_pair : Stmt := topS 41
theorem sc__law_odd_pair : FnScope ["_law_box", "_law_field_here", "_law_some"] ["_law_box", "_law_field_here"] (defScope s__law_odd_pair) := ⟨rfl, rfl, rfl, by decide +kernel, rfl, by decide +kernel, by decide +kernel⟩
abbrev s__law_is_number : Stmt := topS 40
theorem sc__law_is_number : FnScope ["_law_field_here", "_law_number_here"] ["_law_field_here", "_law_number_here"] (defScope s__law_is_number) := ⟨rfl, rfl, rfl, by decide +kernel, rfl, by decide +kernel, by decide +kernel⟩
abbrev s__law_why : Stmt := topS 31
theorem sc__law_why : FnScope ["_law_ask", "_law_told", "_law_word", "e"] ["_law_ask"] (defScope s__law_why) := ⟨rfl, rfl, rfl, by decide +kernel, rfl, by decide +kernel, by decide +kernel⟩
abbrev s__law_int : Stmt := topS 29
theorem sc__law_int : FnScope ["_law_found"] ["_law_found"] (defScope s__law_int) := ⟨rfl, rfl, rfl, by decide +kernel, rfl, by decide +kernel, by decide +kernel⟩
abbrev s__law_like : Stmt := topS 30
theorem sc__law_like : FnScope ["_law_found", "_law_due", "_law_k"] ["_law_found", "_law_due"] (defScope s__law_like) := ⟨rfl, rfl, rfl, by decide +kernel, rfl, by decide +kernel, by decide +kernel⟩
abbrev s__law_plus : Stmt := topS 36
theorem sc__law_plus : FnScope ["_law_field_here", "_law_one", "_law_other"] ["_law_field_here", "_law_one", "_law_other"] (defScope s__law_plus) := ⟨rfl, rfl, rfl, by decide +kernel, rfl, by decide +kernel, by decide +kernel⟩
abbrev s__law_times : Stmt := topS 37
theorem sc__law_times : FnScope ["_law_field_here", "_law_one", "_law_other"] ["_law_field_here", "_law_one", "_law_other"] (defScope s__law_times) := ⟨rfl, rfl, rfl, by decide +kernel, rfl, by decide +kernel, by decide +kernel⟩
abbrev s__law_less : Stmt := topS 38
theorem sc__law_less : FnScope ["_law_field_here", "_law_number_here"] ["_law_field_here", "_law_number_here"] (defScope s__law_less) := ⟨rfl, rfl, rfl, by decide +kernel, rfl, by decide +kernel, by decide +kernel⟩
abbrev s__law_over : Stmt := topS 42
theorem sc__law_over : FnScope ["_law_field_here", "_law_number_here"] ["_law_field_here", "_law_number_here"] (defScope s__law_over) := ⟨rfl, rfl, rfl, by decide +kernel, rfl, by decide +kernel, by decide +kernel⟩
abbrev s_is_field : Stmt := topS 20
theorem sc_is_field : FnScope ["field"] ["field"] (defScope s_is_field) := ⟨rfl, rfl, rfl, by decide +kernel, rfl, by decide +kernel, by decide +kernel⟩
abbrev s_check_field : Stmt := topS 17
theorem sc_check_field : FnScope ["field"] ["field"] (defScope s_check_field) := ⟨rfl, rfl, rfl, by decide +kernel, rfl, by decide +kernel, by decide +kernel⟩
abbrev s_fits : Stmt := topS 18
theorem sc_fits : FnScope ["field", "number", "top", "bottom"] ["field", "number"] (defScope s_fits) := ⟨rfl, rfl, rfl, by decide +kernel, rfl, by decide +kernel, by decide +kernel⟩
abbrev s_check_numbers : Stmt := topS 19
theorem sc_check_numbers : FnScope ["field", "numbers", "number"] ["field", "numbers"] (defScope s_check_numbers) := ⟨rfl, rfl, rfl, by decide +kernel, rfl, by decide +kernel, by decide +kernel⟩
abbrev s_added : Stmt := topS 5
theorem sc_added : FnScope ["field", "one", "other", "shared", "part", "top", "common"] ["field", "one", "other"] (defScope s_added) := ⟨rfl, rfl, rfl, by decide +kernel, rfl, by decide +kernel, by decide +kernel⟩
abbrev s_plus : Stmt := topS 21
theorem sc_plus : FnScope ["field", "one", "other"] ["field", "one", "other"] (defScope s_plus) := ⟨rfl, rfl, rfl, by decide +kernel, rfl, by decide +kernel, by decide +kernel⟩
abbrev s_inverse : Stmt := topS 3
theorem sc_inverse : FnScope ["prime", "whole", "found", "_"] ["prime", "whole"] (defScope s_inverse) := ⟨rfl, rfl, rfl, by decide +kernel, rfl, by decide +kernel, by decide +kernel⟩
abbrev s_lowest : Stmt := topS 4
theorem sc_lowest : FnScope ["field", "top", "bottom", "shared"] ["field", "top", "bottom"] (defScope s_lowest) := ⟨rfl, rfl, rfl, by decide +kernel, rfl, by decide +kernel, by decide +kernel⟩
abbrev s_multiplied : Stmt := topS 6
theorem sc_multiplied : FnScope ["field", "one", "other"] ["field", "one", "other"] (defScope s_multiplied) := ⟨rfl, rfl, rfl, by decide +kernel, rfl, by decide +kernel, by decide +kernel⟩
abbrev s_times : Stmt := topS 22
theorem sc_times : FnScope ["field", "one", "other"] ["field", "one", "other"] (defScope s_times) := ⟨rfl, rfl, rfl, by decide +kernel, rfl, by decide +kernel, by decide +kernel⟩
abbrev s_negative : Stmt := topS 7
theorem sc_negative : FnScope ["field", "number"] ["field", "number"] (defScope s_negative) := ⟨rfl, rfl, rfl, by decide +kernel, rfl, by decide +kernel, by decide +kernel⟩
abbrev s_less : Stmt := topS 23
theorem sc_less : FnScope ["field", "number"] ["field", "number"] (defScope s_less) := ⟨rfl, rfl, rfl, by decide +kernel, rfl, by decide +kernel, by decide +kernel⟩
abbrev s_is_nought : Stmt := topS 2
theorem sc_is_nought : FnScope ["field", "whole"] ["field", "whole"] (defScope s_is_nought) := ⟨rfl, rfl, rfl, by decide +kernel, rfl, by decide +kernel, by decide +kernel⟩
abbrev s_flipped : Stmt := topS 8
theorem sc_flipped : FnScope ["field", "number"] ["field", "number"] (defScope s_flipped) := ⟨rfl, rfl, rfl, by decide +kernel, rfl, by decide +kernel, by decide +kernel⟩
abbrev s_over : Stmt := topS 24
theorem sc_over : FnScope ["field", "number"] ["field", "number"] (defScope s_over) := ⟨rfl, rfl, rfl, by decide +kernel, rfl, by decide +kernel, by decide +kernel⟩
abbrev s_law : Stmt := topS 44
theorem sc_law : FnScope ["_law_script", "_law_box", "_law_turn", "_law_field_here", "_law_pairs", "_law_one", "_law_other", "_law_pair", "_law_good", "_law_due", "_law_found", "_law_odd", "_law_words"] ["_law_script"] (defScope s_law) := ⟨rfl, rfl, rfl, by decide +kernel, rfl, by decide +kernel, by decide +kernel⟩
/-! ### said of a def -/
def Def (P : Program) (w : World) (K : PySem.W.Frag) (mg : Str → Option Value) (base : Heap) (x : Str) (k : Nat) (ps : List Str) (sp : Sp) : Prop :=
  ∃ (f : Addr) (fd : FuncData), FnOk P w K mg base CX0 k f fd ps sp ∧ mg x = some (.ref f) ∧ PySem.W.keepIn K (.ref f) = true ∧ Binds K fd ps []
def Raw (K : PySem.W.Frag) (mg : Str → Option Value) (x : Str) (st : Stmt) : Prop := ∃ (f : Addr) (fd : FuncData), Fun K x x st f fd ∧ mg x = some (.ref f)
structure Bn (mg : Str → Option Value) : Prop where
  len : mg "len" = none
  range : mg "range" = none
  all : mg "all" = none
  abs : mg "abs" = none
  list : mg "list" = none
  gcd : mg "gcd" = some (.builtin "math.gcd")
  isinstance : mg "isinstance" = none
  int : mg "int" = none
  bool : mg "bool" = none
  str : mg "str" = none
  tuple : mg "tuple" = none
/-! ### tests on ints -/
theorem eqI {a b : Int} (e : decide (V.int a = V.int b) = true) : a = b := V.int.inj (of_decide_eq_true e)
theorem neI {a b : Int} (e : ¬ decide (V.int a = V.int b) = true) : a ≠ b := fun q => e (decide_eq_true (congrArg V.int q))
theorem neE {a b : Int} (e : (!decide (V.int a = V.int b)) = true) : a ≠ b := fun q => by
  rw [decide_eq_true (congrArg V.int q)] at e
  cases e
theorem neN {a b : Int} (e : ¬ (!decide (V.int a = V.int b)) = true) : a = b := by
  by_cases h : a = b
  · exact h
  · exfalso
    apply e
    rw [decide_eq_false (fun q => h (V.int.inj q))]
    rfl
theorem decI (a b : Int) : decide (V.int a = V.int b) = decide (a = b) := by
  by_cases h : a = b
  · rw [decide_eq_true h, decide_eq_true (congrArg V.int h)]
  · rw [decide_eq_false h, decide_eq_false (fun q => h (V.int.inj q))]
/-! ### numbers on the heap -/
theorem Same.seqT {K : PySem.W.Frag} {H H' : Hp} {a : Addr} {xs : List V} (e : Same H H') (h : SqT K H a xs) : SqT K H' a xs := by
  rcases h with (h | ⟨o, h⟩) | h
  · exact .inl (.inl (e _ _ h))
  · exact .inl (.inr ⟨o, e _ _ h⟩)
  · exact .inr h
theorem same_new {H : Hp} {p : Addr} {o : HO} (h : H p = none) : Same H (upd H p o) := fun b x e => by
  rw [upd_ne (ne_of_none e h)]
  exact e
def NumV (K : PySem.W.Frag) (H : Hp) (v : V) (q : Pr) : Prop := ∃ p : Addr, v = .ref p ∧ SqT K H p [.int q.1, .int q.2]
theorem NumV.same {K : PySem.W.Frag} {H H' : Hp} {v : V} {q : Pr} (h : NumV K H v q) (e : Same H H') : NumV K H' v q := by
  obtain ⟨p, h1, h2⟩ := h
  exact ⟨p, h1, Same.seqT e h2⟩
theorem NumV.new {K : PySem.W.Frag} {H : Hp} {p : Addr} (a b : Int) : NumV K (upd H p (.tup [.int a, .int b])) (.ref p) (a, b) := ⟨p, rfl, SqT.of upd_same⟩
/-- a number is told, a new object or one that stood -/
def RetN (K : PySem.W.Frag) (H : Hp) (Q : VK) (q : Pr) : Prop := ∀ (H' : Hp) (v : V), Same H H' → NumV K H' v q → Q v H'
theorem RetN.new {K : PySem.W.Frag} {H : Hp} {Q : VK} {a b : Int} {q : Pr} (h : RetN K H Q q) (e : q = (a, b)) {p : Addr} (hp : H p = none) : Q (.ref p) (upd H p (.tup [.int a, .int b])) := by
  subst e
  exact h _ _ (same_new hp) (NumV.new a b)
def Sm (n : Nat) (q : Pr) : Prop := q.1.natAbs < 2 ^ n ∧ q.2.natAbs < 2 ^ n
theorem Sm.mono {n m : Nat} {q : Pr} (h : Sm n q) (k : n ≤ m) : Sm m q := ⟨Nat.lt_of_lt_of_le h.1 (Nat.pow_le_pow_right (by decide) k), Nat.lt_of_lt_of_le h.2 (Nat.pow_le_pow_right (by decide) k)⟩
/-- // by any divisor but 0 that is below 2 ^ 9000 in size -/
def CDivA (_ j : Int) : Prop := j ≠ 0 ∧ j.natAbs.log2 < 9000
theorem op_fdivA {X : Cx} : OpR X (binaryOp .FloorDiv) (rI CDivA fun i j => .int (i.fdiv j)) := opI fun _ _ _ _ _ _ _ hc q => floordiv_int hc.1 q (.inl (PyProof.noPylong_of_log2 hc.2))
theorem divA {i j : Int} {b : Nat} (h : j ≠ 0) (hb : j.natAbs < 2 ^ b) (h0 : 0 < b) (h9 : b ≤ 9000) : CDivA i j := ⟨h, Nat.lt_of_lt_of_le (PySem.Flt.log2_lt_of h0 hb) h9⟩
/-! ### fields -/
theorem IsF.nn {f : Int} (h : IsF f) : 0 ≤ f := by
  rcases h with rfl | ⟨p, _, rfl⟩ <;> omega
theorem IsF.two {f : Int} (h : IsF f) (h0 : f ≠ 0) : 2 ≤ f ∧ f ≤ 97 := by
  rcases h with h | ⟨p, hp, rfl⟩
  · exact absurd h h0
  · have := prime_big p hp
    omega
theorem powm_bd {p b : Int} (hp : 2 ≤ p) : ∀ n, 0 ≤ powm p b n ∧ powm p b n < p
  | 0 => ⟨by show (0 : Int) ≤ 1; omega, by show (1 : Int) < p; omega⟩
  | n + 1 => ⟨Int.emod_nonneg _ (by omega), Int.emod_lt_of_pos _ (by omega)⟩
def nouB (f w : Int) : Bool := if f = 0 then decide (w = 0) else decide (w % f = 0)
theorem nouB0 {w : Int} : nouB 0 w = decide (w = 0) := if_pos rfl
theorem nouB1 {f w : Int} (h : f ≠ 0) : nouB f w = decide (w % f = 0) := if_neg h
theorem gOf_ne {t b : Int} (hb : b ≠ 0) : gOf t b ≠ 0 := by
  have : (Nat.gcd t.natAbs b.natAbs : Nat) ≠ 0 := by
    intro h
    rw [Nat.gcd_eq_zero_iff] at h
    omega
  unfold gOf
  split <;> omega
theorem gOf_le {t b : Int} (hb : b ≠ 0) : (gOf t b).natAbs ≤ b.natAbs := by
  have : Nat.gcd t.natAbs b.natAbs ≤ b.natAbs := Nat.le_of_dvd (by omega) (Nat.gcd_dvd_right _ _)
  unfold gOf
  split <;> omega
theorem tYes_of {σ : L2.St} {H : Hp} {Q : Bool → Hp → Prop} (h : Q true H) : tYes σ H Q := h
theorem tIfS_join {c : TT} {t u : TS} {D : Ends} {σ : L2.St} {H : Hp} (M : L2.St → Hp → Prop) (hM : ∀ σ' H', M σ' H' → D.nx σ' H') (h : (∀ σ' H', M σ' H' → D.nx σ' H') → tIfS c t u D σ H) : tIfS c t u D σ H := h hM
theorem same_seqT_upd {H H' : Hp} (e : Same H H') {D : Addr} {l : List V} {o : HO} (hD : H D = none) (h : H' D = some (.lst l)) : Same H (upd H' D o) := fun b x q => by
  have nb : b ≠ D := ne_of_none q hD
  rw [upd_ne nb]
  exact e b x q
theorem at0 (a b : V) : atI [a, b] 0 = some a := rfl
theorem at1 (a b : V) : atI [a, b] 1 = some b := rfl

/-! ## refusals -/
/-- what the top says of a refusal's class: at CW the class WebError that the handlers name; w its word -/
structure ErrC (K : PySem.W.Frag) (mg : Str → Option Value) (CW : Addr) (x : Str) (C fI : Addr) (w : Str) : Prop where
  oex : OexC K C
  exc : ExcC K C
  nm : ∃ nm, CName K C nm ∧ nm.length ≤ 5592405 ∧ Txt.lower nm = w
  xf : XfC K C
  noW : PySem.W.findIn K (.ref C) "word" = some none
  mgC : mg x = some (.ref C)
  iC : PySem.W.findIn K (.ref C) "__init__" = some (some (.ref fI))
  te : PySem.W.exmOne K (.ref C) (.ref CW) = some true
/-- what a handler must know of a caught class -/
structure ErrIs (K : PySem.W.Frag) (CW C : Addr) : Prop where
  xf : XfC K C
  noW : PySem.W.findIn K (.ref C) "word" = some none
  te : PySem.W.exmOne K (.ref C) (.ref CW) = some true
theorem ErrC.is {K : PySem.W.Frag} {mg : Str → Option Value} {CW C fI : Addr} {x w : Str} (E : ErrC K mg CW x C fI w) : ErrIs K CW C := ⟨E.xf, E.noW, E.te⟩
/-- such a refusal leaves -/
def Raised (K : PySem.W.Frag) (CW : Addr) (w : Str) (H : Hp) (E : XK) : Prop := ∀ (C d : Addr) (H' : Hp), ErrIs K CW C → Same H H' → H' d = some (.xd [("word", .str w)]) → E (.ref C) (some d) H'
theorem Raised.same {K : PySem.W.Frag} {CW : Addr} {w : Str} {H H1 : Hp} {E : XK} (h : Raised K CW w H E) (s : Same H H1) : Raised K CW w H1 E := fun C d H' e s' q => h C d H' e (s.trans s') q
def spIni (K : PySem.W.Frag) : Sp := fun vs H Q _ => ∃ (a C : Addr) (x : V) (nm : Str), vs = [.ref a, x] ∧ H a = some (exo a C none) ∧ OexC K C ∧ ExcC K C ∧ CName K C nm ∧ nm.length ≤ 5592405 ∧ PySem.W.findIn K (.ref C) "word" = some none ∧
  ∀ dx, H dx = none → dx ≠ a → Q .non (upd (upd H dx (exd dx [("word", .str (Txt.lower nm))])) a (exo a C (some dx)))
/-- WebError.__init__, called with a text -/
structure IniAt (P : Program) (w : World) (K : PySem.W.Frag) (mg : Str → Option Value) (base : Heap) (fI : Addr) (fd : FuncData) : Prop where
  ok : FnOk P w K mg base CX0 1 fI fd ["self", "text"] (spIni K)
  bd : Binds K fd ["self", "text"] []
  ty : PySem.W.typeIn K (.ref fI) = some (.type "function")
abbrev s_init : Stmt := inClass (topS 10) 0
theorem sc_init : FnScope ["self", "text"] ["self", "text"] (defScope s_init) := ⟨rfl, rfl, rfl, by decide +kernel, rfl, by decide +kernel, by decide +kernel⟩
theorem d_init {P : Program} {w : World} {K : PySem.W.Frag} {mg : Str → Option Value} {base : Heap} {fI : Addr} {fd : FuncData} (F : FunD K "__init__" "WebError.__init__" (defArgs s_init) (defBody s_init) (defScope s_init) [.str ""] [] fI fd) (mV : mg "ValueError" = none)
    (vV : PySem.W.findCls K (.type "ValueError") (.type "type") "__init__" = some (.val (.builtin "ValueError.__init__"))) (ty : PySem.W.typeIn K (.ref fI) = some (.type "function")) : IniAt P w K mg base fI fd := by
  refine ⟨F.ok (CX := CX0) sc_init (fun vs H Q E h => ?_) (fun cdv A outer s H vs Q E hr h => ?_), ?_, ty⟩
  · obtain ⟨a, C, x, nm, rfl, _⟩ := h
    rfl
  · obtain ⟨a, C, x, nm, rfl, hH, oex, exc, cn, hl, noW, q⟩ := h
    refine ⟨_, pss_cons (ps_expr (pe_veinit (by rfl) mV vV (pa_cons (pv 0) (pa_cons (pv 1) pa_nil)))) (pss_one (ps_ost (pv 0) (pe_lower (pe_nameOf (pe_classOf (pv 0)))))), ?_⟩
    refine ⟨_, rfl, _, rfl, a, C, [x], rfl, by show 1 ≤ 1000; decide, oex, hH, ?_⟩
    exact ⟨_, rfl, a, C, rfl, hH, exc, C, nm, rfl, cn, ⟨_, rfl⟩, nm, rfl, rfl, hl, _, rfl, a, C, rfl, oex, noW, .inl ⟨hH, fun dx n ne => q dx n ne⟩⟩
  · obtain ⟨ds, hd, hb⟩ := F.binds1 (ps := ["self", "text"]) 2 1 (by simp) rfl fun T kV doc pm an cdv ct us its hu hi => match us, hu, its, hi with | [_, _], _, [_], _ => ⟨_, rfl, by first | rfl | with_unfolding_all rfl | kernel_rfl⟩
    cases hd
    exact hb
/-- what the raise's reading asks -/
theorem raise_read {K : PySem.W.Frag} {mg : Str → Option Value} {CW C fI : Addr} {x w : Str} (Ec : ErrC K mg CW x C fI w) {H : Hp} {E : XK} {y : V} (h : Raised K CW w H E) :
    ∀ a, H a = none → spIni K (.ref a :: ([y] ++ [])) (upd H a (exo a C none)) (fun v H2 => v = .non ∧ ∃ (d : Addr) (fs : List (Str × V)), H2 a = some (exo a C (some d)) ∧ H2 d = some (exd d fs) ∧ H d = none ∧ E (.ref C) (some d) (upd (del H2 a) d (.xd fs))) (fun _ _ _ => False) := by
  intro a ha
  obtain ⟨nm, cn, hl, ew⟩ := Ec.nm
  refine ⟨a, C, y, nm, rfl, upd_same, Ec.oex, Ec.exc, cn, hl, Ec.noW, fun dx hdx ne => ⟨rfl, dx, [("word", .str w)], ?_, ?_, ?_, ?_⟩⟩
  · rw [upd_same]
  · rw [upd_ne ne, upd_same, ew]
  · rw [upd_ne ne] at hdx
    exact hdx
  · rw [upd_ne ne] at hdx
    refine h C dx _ Ec.is (fun b o e => ?_) upd_same
    have n1 : b ≠ a := ne_of_none e ha
    have n2 : b ≠ dx := ne_of_none e hdx
    rw [upd_ne n2, del_ne n1, upd_ne n1, upd_ne n2, upd_ne n1]
    exact e
/-- a def that may raise -/
def DefX (P : Program) (w : World) (K : PySem.W.Frag) (mg : Str → Option Value) (base : Heap) (x : Str) (k : Nat) (ps : List Str) (sp : Sp) : Prop :=
  ∃ (f : Addr) (fd : FuncData), FnOk P w K mg base (L2.CX P w) k f fd ps sp ∧ mg x = some (.ref f) ∧ PySem.W.keepIn K (.ref f) = true ∧ Binds K fd ps []

/-! ## stalkweb.arithmetic -/
def spNou : Sp := fun vs H Q _ => ∃ f w : Int, vs = [.int f, .int w] ∧ 0 ≤ f ∧ Q (.bl (nouB f w)) H
theorem len_is_nought {vs H Q E} (h : spNou vs H Q E) : vs.length = (["field", "whole"] : List Str).length := by
  obtain ⟨f, w, rfl, _⟩ := h
  rfl
theorem d_is_nought {P : Program} {w : World} {K : PySem.W.Frag} {mg : Str → Option Value} {base : Heap} (R : Raw K mg "is_nought" s_is_nought)  : Def P w K mg base "is_nought" 1 ["field", "whole"] (spNou) := by
  obtain ⟨f, fd, F, m⟩ := R
  refine ⟨f, fd, F.ok sc_is_nought (fun vs H Q E h => ?_) (fun cdv A outer s H vs Q E hr h => ?_), m, F.kp, F.binds (ps := ["field", "whole"]) fun _ _ _ _ _ _ us hl => match us, hl with | [_, _], _ => rfl⟩
  · exact len_is_nought h

  · obtain ⟨a, n, rfl, h0, q⟩ := h
    refine ⟨_, (pss_cons (ps_if (pt_cmpR op_eq (pv 0) pe_int (nomark _)) (pss_one (ps_ret (pe_cmpR op_eq (pv 1) pe_int (nomark _)))) pss_nil) (pss_one (ps_ret (pe_cmpR op_eq (pe_op op_mod (pv 1) (pv 0)) pe_int (nomark _))))), ?_⟩
    refine ⟨_, rfl, rfl, _, rfl, ite2 (fun e => ?_) (fun e => ?_)⟩
    · have e := eqI e
      subst e
      refine ⟨_, rfl, rfl, ?_⟩
      rw [nouB0] at q
      rw [decI]
      exact q
    · have e := neI e
      refine ⟨_, rfl, _, rfl, _, _, rfl, rfl, (by show (0 : Int) < a; omega), rfl, ?_⟩
      rw [nouB1 e] at q
      rw [decI]
      exact q
def spInv : Sp := fun vs H Q _ => ∃ p b : Int, vs = [.int p, .int b] ∧ 2 ≤ p ∧ p ≤ 97 ∧ 0 ≤ b ∧ b < p ∧ Q (.int (powm p b (p - 2).toNat)) H
theorem len_inverse {vs H Q E} (h : spInv vs H Q E) : vs.length = (["prime", "whole"] : List Str).length := by
  obtain ⟨f, w, rfl, _⟩ := h
  rfl
theorem d_inverse {P : Program} {w : World} {K : PySem.W.Frag} {mg : Str → Option Value} {base : Heap} (R : Raw K mg "inverse" s_inverse) (B : Bn mg)  : Def P w K mg base "inverse" 1 ["prime", "whole"] (spInv) := by
  obtain ⟨f, fd, F, m⟩ := R
  refine ⟨f, fd, F.ok sc_inverse (fun vs H Q E h => ?_) (fun cdv A outer s H vs Q E hr h => ?_), m, F.kp, F.binds (ps := ["prime", "whole"]) fun _ _ _ _ _ _ us hl => match us, hl with | [_, _], _ => rfl⟩
  · exact len_inverse h

  · obtain ⟨a, b, rfl, h2, h97, hb0, hb1, q⟩ := h
    refine ⟨_, (pss_cons (ps_set (i := 2) sc_inverse.nd rfl (Or.inl rfl) pe_int) (pss_cons (ps_for PassesOwn.never rfl (pi_range1 (by rfl) B.range (pa_cons (pe_op op_sub (pv 0) pe_int) pa_nil)) (pg_name (i := 3) sc_inverse.nd rfl (Or.inl rfl)) (pss_one (ps_set (i := 2) sc_inverse.nd rfl (Or.inl rfl) (pe_op op_mod (pe_op op_mul (pv 2) (pv 1)) (pv 0))))) (pss_one (ps_ret (pv 2))))), ?_⟩
    refine ⟨_, rfl, _, _, rfl, rfl, a - 2, rfl, by omega, by omega, ?_⟩
    refine for_range (lo := 0) (n := (a - 2).toNat) (fun i σ H' => H' = H ∧ ∃ z, σ = [some (.int a), some (.int b), some (.int (powm a b i)), z]) ⟨rfl, none, rfl⟩ ?_ ?_
    · rintro i σ H' hi ⟨rfl, z, rfl⟩
      have hb := powm_bd (b := b) h2 i
      refine ⟨_, rfl, _, rfl, _, _, rfl, rfl, .inl ⟨by omega, by omega⟩, _, rfl, _, _, rfl, rfl, (by show (0 : Int) < a; omega), rfl, _, rfl⟩
    · rintro σ H' ⟨rfl, z, rfl⟩
      exact ⟨_, rfl, q⟩
/-- top over bottom -/
def spLow (K : PySem.W.Frag) : Sp := fun vs H Q _ => ∃ f t b : Int, vs = [.int f, .int t, .int b] ∧ IsF f ∧ nouB f b = false ∧ (f = 0 → b.natAbs < 2 ^ 9000) ∧ RetN K H Q (low f t b)
theorem len_lowest {K vs H Q E} (h : spLow K vs H Q E) : vs.length = (["field", "top", "bottom"] : List Str).length := by
  obtain ⟨f, t, b, rfl, _⟩ := h
  rfl
theorem d_lowest {P : Program} {w : World} {K : PySem.W.Frag} {mg : Str → Option Value} {base : Heap} (R : Raw K mg "lowest" s_lowest) (B : Bn mg) (D_inverse : Def P w K mg base "inverse" 1 ["prime", "whole"] (spInv)) : Def P w K mg base "lowest" 2 ["field", "top", "bottom"] (spLow K) := by
  obtain ⟨f, fd, F, m⟩ := R
  obtain ⟨f_inverse, fd_inverse, G_inverse, m_inverse, k_inverse, b_inverse⟩ := D_inverse
  refine ⟨f, fd, F.ok sc_lowest (fun vs H Q E h => ?_) (fun cdv A outer s H vs Q E hr h => ?_), m, F.kp, F.binds (ps := ["field", "top", "bottom"]) fun _ _ _ _ _ _ us hl => match us, hl with | [_, _, _], _ => rfl⟩
  · exact len_lowest h

  · obtain ⟨a, t, b, rfl, hf, hn, hs, q⟩ := h
    refine ⟨_, (pss_cons (ps_if (pt_cmpR op_ne (pv 0) pe_int (nomark _)) (pss_one (ps_ret (pe_tup (pa_cons (pe_op op_mod (pe_op op_mul (pe_op op_mod (pv 1) (pv 0)) (pe_call G_inverse (hr.mono (by omega)) (by rfl) m_inverse k_inverse b_inverse .nil pass0 (pa_cons (pv 0) (pa_cons (pe_op op_mod (pv 2) (pv 0)) pa_nil)))) (pv 0)) (pa_cons pe_int pa_nil))))) pss_nil) (pss_cons (ps_set (i := 3) sc_lowest.nd rfl (Or.inl rfl) (pe_callBfun cr_gcd (by rfl) B.gcd (pa_cons (pv 1) (pa_cons (pv 2) pa_nil)))) (pss_cons (ps_if (pt_cmpR op_lt (pv 2) pe_int (nomark _)) (pss_one (ps_set (i := 3) sc_lowest.nd rfl (Or.inl rfl) (pe_un un_neg (pv 3)))) pss_nil) (pss_one (ps_ret (pe_tup (pa_cons (pe_op op_fdivA (pv 1) (pv 3)) (pa_cons (pe_op op_fdivA (pv 2) (pv 3)) pa_nil)))))))), ?_⟩
    refine ⟨_, rfl, rfl, _, rfl, ite2 (fun e => ?_) (fun e => ?_)⟩
    · have e := neE e
      have h2 := hf.two e
      have m0 : 0 ≤ t % a := Int.emod_nonneg t (by omega)
      have m1 : t % a < a := Int.emod_lt_of_pos t (by omega)
      have n0 : 0 ≤ b % a := Int.emod_nonneg b (by omega)
      have n1 : b % a < a := Int.emod_lt_of_pos b (by omega)
      refine ⟨_, rfl, _, rfl, _, _, rfl, rfl, (by show (0 : Int) < a; omega), _, rfl, _, rfl, _, rfl, _, _, rfl, rfl, (by show (0 : Int) < a; omega), ?_⟩
      refine ⟨a, b % a, rfl, h2.1, h2.2, n0, n1, ?_⟩
      refine ⟨_, _, rfl, rfl, .inl ⟨by omega, by omega⟩, _, rfl, _, _, rfl, rfl, (by show (0 : Int) < a; omega), (by show 2 ≤ sizeLine; decide), fun p hp => ?_⟩
      exact q.new (by unfold low; rw [if_pos e]) hp
    · have e := neN e
      subst e
      have hb : b ≠ 0 := by
        rw [nouB0] at hn
        exact of_decide_eq_false hn
      have hs := hs rfl
      have hg := gOf_ne (t := t) hb
      have hgl := gOf_le (t := t) hb
      have hq : low 0 t b = (t.fdiv (gOf t b), b.fdiv (gOf t b)) := by
        unfold low
        rw [if_neg (by simp)]
      have hd : ∀ i, CDivA i (gOf t b) := fun i => divA hg (Nat.lt_of_le_of_lt hgl hs) (by decide) (by decide)
      refine ⟨_, rfl, _, rfl, _, _, rfl, ?_⟩
      refine ⟨_, rfl, _, _, rfl, rfl, _, rfl, ite2 (fun e => ?_) (fun e => ?_)⟩
      · have e := of_decide_eq_true e
        have eg : -((Nat.gcd t.natAbs b.natAbs : Nat) : Int) = gOf t b := by
          unfold gOf
          rw [if_pos e]
        refine ⟨_, rfl, _, rfl, ?_⟩
        dsimp only
        rw [eg]
        refine ⟨_, rfl, _, rfl, _, _, rfl, rfl, hd _, _, rfl, _, rfl, _, _, rfl, rfl, hd _, (by show 2 ≤ sizeLine; decide), fun p hp => ?_⟩
        exact q.new hq hp
      · have e := of_decide_eq_false (eq_false_of_ne_true e)
        have eg : ((Nat.gcd t.natAbs b.natAbs : Nat) : Int) = gOf t b := by
          unfold gOf
          rw [if_neg e]
        rw [eg]
        refine ⟨_, rfl, _, rfl, _, _, rfl, rfl, hd _, _, rfl, _, rfl, _, _, rfl, rfl, hd _, (by show 2 ≤ sizeLine; decide), fun p hp => ?_⟩
        exact q.new hq hp

/-- what a pair must be so that sums and products go through -/
structure Ok (f : Int) (q : Pr) : Prop where
  num : IsN f q
  sm : Sm 4000 q
theorem IsN.den {q : Pr} (h : IsN 0 q) : 1 ≤ q.2 ∧ Nat.gcd q.1.natAbs q.2.natAbs = 1 := by
  rcases h with ⟨_, h1, h2⟩ | ⟨h, _⟩
  · exact ⟨h1, h2⟩
  · exact absurd rfl h
theorem mul_small {a b : Int} {n m : Nat} (ha : a.natAbs < 2 ^ n) (hb : b.natAbs < 2 ^ m) : (a * b).natAbs < 2 ^ (n + m) := wide_lt ha hb
def spTwo (K : PySem.W.Frag) (g : Int → Pr → Pr → Pr) : Sp := fun vs H Q _ => ∃ (f : Int) (x y : V) (p q : Pr), vs = [.int f, x, y] ∧ IsF f ∧ NumV K H x p ∧ NumV K H y q ∧ Ok f p ∧ Ok f q ∧ RetN K H Q (g f p q)
theorem len_two {K g vs H Q E} (h : spTwo K g vs H Q E) : vs.length = (["field", "one", "other"] : List Str).length := by
  obtain ⟨f, x, y, p, q, rfl, _⟩ := h
  rfl
theorem wm {i j : Int} (hi : i.natAbs < 2 ^ 4000) (hj : j.natAbs < 2 ^ 4000) : CMulW i j := wide_mul hi hj (by decide) (by decide) (by decide)
theorem d_added {P : Program} {w : World} {K : PySem.W.Frag} {mg : Str → Option Value} {base : Heap} (R : Raw K mg "added" s_added) (B : Bn mg)  : Def P w K mg base "added" 1 ["field", "one", "other"] (spTwo K addN) := by
  obtain ⟨f, fd, F, m⟩ := R
  refine ⟨f, fd, F.ok sc_added (fun vs H Q E h => ?_) (fun cdv A outer s H vs Q E hr h => ?_), m, F.kp, F.binds (ps := ["field", "one", "other"]) fun _ _ _ _ _ _ us hl => match us, hl with | [_, _, _], _ => rfl⟩
  · exact len_two h

  · obtain ⟨a, x, y, p, r, rfl, hf, ⟨px, rfl, hx⟩, ⟨py, rfl, hy⟩, ⟨np, sp⟩, ⟨nr, sr⟩, q⟩ := h
    refine ⟨_, (pss_cons (ps_if (pt_cmpR op_ne (pv 0) pe_int (nomark _)) (pss_one (ps_ret (pe_tup (pa_cons (pe_op op_mod (pe_op op_add (pe_ix ix_tup (pv 1) pe_int (fun _ _ => rfl)) (pe_ix ix_tup (pv 2) pe_int (fun _ _ => rfl))) (pv 0)) (pa_cons pe_int pa_nil))))) pss_nil) (pss_cons (ps_set (i := 3) sc_added.nd rfl (Or.inl rfl) (pe_callBfun cr_gcd (by rfl) B.gcd (pa_cons (pe_ix ix_tup (pv 1) pe_int (fun _ _ => rfl)) (pa_cons (pe_ix ix_tup (pv 2) pe_int (fun _ _ => rfl)) pa_nil)))) (pss_cons (ps_set (i := 4) sc_added.nd rfl (Or.inl rfl) (pe_op op_fdivA (pe_ix ix_tup (pv 1) pe_int (fun _ _ => rfl)) (pv 3))) (pss_cons (ps_set (i := 5) sc_added.nd rfl (Or.inl rfl) (pe_op op_add (pe_op op_mulW (pe_ix ix_tup (pv 1) pe_int (fun _ _ => rfl)) (pe_op op_fdivA (pe_ix ix_tup (pv 2) pe_int (fun _ _ => rfl)) (pv 3))) (pe_op op_mulW (pe_ix ix_tup (pv 2) pe_int (fun _ _ => rfl)) (pv 4)))) (pss_cons (ps_set (i := 6) sc_added.nd rfl (Or.inl rfl) (pe_callBfun cr_gcd (by rfl) B.gcd (pa_cons (pv 5) (pa_cons (pv 3) pa_nil)))) (pss_one (ps_ret (pe_tup (pa_cons (pe_op op_fdivA (pv 5) (pv 6)) (pa_cons (pe_op op_mulW (pv 4) (pe_op op_fdivA (pe_ix ix_tup (pv 2) pe_int (fun _ _ => rfl)) (pv 6))) pa_nil)))))))))), ?_⟩
    refine ⟨_, rfl, rfl, _, rfl, ite2 (fun e => ?_) (fun e => ?_)⟩
    · have e := neE e
      have h2 := hf.two e
      refine ⟨_, rfl, px, _, _, _, rfl, rfl, hx, at0 _ _, _, rfl, py, _, _, _, rfl, rfl, hy, at0 _ _, _, _, rfl, rfl, _, rfl, _, _, rfl, rfl, (by show (0 : Int) < a; omega), (by show 2 ≤ sizeLine; decide), fun z hz => ?_⟩
      exact q.new (by unfold addN; rw [if_pos e]) hz
    · have e := neN e
      subst e
      have hp := np.den.1
      have hr' := nr.den.1
      have hs := sh_bd (q := r) np
      have hc := co_bd (q := r) np
      have b1 : (paB p r).natAbs < 2 ^ 4000 := Nat.lt_of_le_of_lt (fdiv_le (by omega) (by omega)) sp.2
      have b2 : (r.2.fdiv (shB p r)).natAbs < 2 ^ 4000 := Nat.lt_of_le_of_lt (fdiv_le (by omega) (by omega)) sr.2
      have b3 : (r.2.fdiv (coB p r)).natAbs < 2 ^ 4000 := Nat.lt_of_le_of_lt (fdiv_le (by omega) (by omega)) sr.2
      have hS : CDivA p.2 (shB p r) := divA (by omega) (Nat.lt_of_le_of_lt hs.2 sp.2) (by decide) (by decide)
      have hS' : CDivA r.2 (shB p r) := divA (by omega) (Nat.lt_of_le_of_lt hs.2 sp.2) (by decide) (by decide)
      have hT : CDivA (toB p r) (coB p r) := divA (by omega) (Nat.lt_of_le_of_lt (Nat.le_trans hc.2 hs.2) sp.2) (by decide) (by decide)
      have hT' : CDivA r.2 (coB p r) := divA (by omega) (Nat.lt_of_le_of_lt (Nat.le_trans hc.2 hs.2) sp.2) (by decide) (by decide)
      refine ⟨_, rfl, px, _, _, _, rfl, rfl, hx, at1 _ _, _, rfl, py, _, _, _, rfl, rfl, hy, at1 _ _, _, _, rfl, ?_⟩
      show _
      refine ⟨_, rfl, px, _, _, _, rfl, rfl, hx, at1 _ _, _, rfl, _, _, rfl, rfl, hS, ?_⟩
      refine ⟨_, rfl, px, _, _, _, rfl, rfl, hx, at0 _ _, _, rfl, py, _, _, _, rfl, rfl, hy, at1 _ _, _, rfl, _, _, rfl, rfl, hS', _, _, rfl, rfl, wm sp.1 b2, ?_⟩
      refine ⟨_, rfl, py, _, _, _, rfl, rfl, hy, at0 _ _, _, rfl, _, _, rfl, rfl, wm sr.1 b1, _, _, rfl, rfl, ?_⟩
      refine ⟨_, rfl, _, rfl, _, _, rfl, ?_⟩
      refine ⟨_, rfl, _, rfl, _, _, rfl, rfl, hT, _, rfl, _, rfl, py, _, _, _, rfl, rfl, hy, at1 _ _, _, rfl, _, _, rfl, rfl, hT', _, _, rfl, rfl, wm b1 b3, (by show 2 ≤ sizeLine; decide), fun z hz => ?_⟩
      exact q.new (add_lean np nr) hz
theorem d_multiplied {P : Program} {w : World} {K : PySem.W.Frag} {mg : Str → Option Value} {base : Heap} (R : Raw K mg "multiplied" s_multiplied) (D_lowest : Def P w K mg base "lowest" 2 ["field", "top", "bottom"] (spLow K)) : Def P w K mg base "multiplied" 3 ["field", "one", "other"] (spTwo K mulN) := by
  obtain ⟨f, fd, F, m⟩ := R
  obtain ⟨f_lowest, fd_lowest, G_lowest, m_lowest, k_lowest, b_lowest⟩ := D_lowest
  refine ⟨f, fd, F.ok sc_multiplied (fun vs H Q E h => ?_) (fun cdv A outer s H vs Q E hr h => ?_), m, F.kp, F.binds (ps := ["field", "one", "other"]) fun _ _ _ _ _ _ us hl => match us, hl with | [_, _, _], _ => rfl⟩
  · exact len_two h

  · obtain ⟨a, x, y, p, r, rfl, hf, ⟨px, rfl, hx⟩, ⟨py, rfl, hy⟩, ⟨np, sp⟩, ⟨nr, sr⟩, q⟩ := h
    refine ⟨_, (pss_cons (ps_if (pt_cmpR op_ne (pv 0) pe_int (nomark _)) (pss_one (ps_ret (pe_tup (pa_cons (pe_op op_mod (pe_op op_mulW (pe_ix ix_tup (pv 1) pe_int (fun _ _ => rfl)) (pe_ix ix_tup (pv 2) pe_int (fun _ _ => rfl))) (pv 0)) (pa_cons pe_int pa_nil))))) pss_nil) (pss_one (ps_ret (pe_call G_lowest (hr.mono (by omega)) (by rfl) m_lowest k_lowest b_lowest .nil pass0 (pa_cons (pv 0) (pa_cons (pe_op op_mulW (pe_ix ix_tup (pv 1) pe_int (fun _ _ => rfl)) (pe_ix ix_tup (pv 2) pe_int (fun _ _ => rfl))) (pa_cons (pe_op op_mulW (pe_ix ix_tup (pv 1) pe_int (fun _ _ => rfl)) (pe_ix ix_tup (pv 2) pe_int (fun _ _ => rfl))) pa_nil))))))), ?_⟩
    refine ⟨_, rfl, rfl, _, rfl, ite2 (fun e => ?_) (fun e => ?_)⟩
    · have e := neE e
      have h2 := hf.two e
      refine ⟨_, rfl, px, _, _, _, rfl, rfl, hx, at0 _ _, _, rfl, py, _, _, _, rfl, rfl, hy, at0 _ _, _, _, rfl, rfl, wm sp.1 sr.1, _, rfl, _, _, rfl, rfl, (by show (0 : Int) < a; omega), (by show 2 ≤ sizeLine; decide), fun z hz => ?_⟩
      exact q.new (by unfold mulN; rw [if_pos e]) hz
    · have e := neN e
      subst e
      have hp := np.den.1
      have hr' := nr.den.1
      refine ⟨_, rfl, _, rfl, px, _, _, _, rfl, rfl, hx, at0 _ _, _, rfl, py, _, _, _, rfl, rfl, hy, at0 _ _, _, _, rfl, rfl, wm sp.1 sr.1, ?_⟩
      refine ⟨_, rfl, px, _, _, _, rfl, rfl, hx, at1 _ _, _, rfl, py, _, _, _, rfl, rfl, hy, at1 _ _, _, _, rfl, rfl, wm sp.2 sr.2, ?_⟩
      have hm : p.2 * r.2 ≠ 0 := Int.mul_ne_zero (by omega) (by omega)
      refine ⟨0, _, _, rfl, hf, by rw [nouB0]; exact decide_eq_false hm, fun _ => Nat.lt_trans (mul_small sp.2 sr.2) (Nat.pow_lt_pow_right (by decide) (by decide)), ?_⟩
      exact q
def spOne (K : PySem.W.Frag) (nz : Bool) (g : Int → Pr → Pr) : Sp := fun vs H Q _ => ∃ (f : Int) (x : V) (p : Pr), vs = [.int f, x] ∧ IsF f ∧ NumV K H x p ∧ Ok f p ∧ (nz = true → p.1 ≠ 0) ∧ RetN K H Q (g f p)
theorem len_one {K nz g vs H Q E} (h : spOne K nz g vs H Q E) : vs.length = (["field", "number"] : List Str).length := by
  obtain ⟨f, x, p, rfl, _⟩ := h
  rfl
theorem d_negative {P : Program} {w : World} {K : PySem.W.Frag} {mg : Str → Option Value} {base : Heap} (R : Raw K mg "negative" s_negative)  : Def P w K mg base "negative" 1 ["field", "number"] (spOne K false negN) := by
  obtain ⟨f, fd, F, m⟩ := R
  refine ⟨f, fd, F.ok sc_negative (fun vs H Q E h => ?_) (fun cdv A outer s H vs Q E hr h => ?_), m, F.kp, F.binds (ps := ["field", "number"]) fun _ _ _ _ _ _ us hl => match us, hl with | [_, _], _ => rfl⟩
  · exact len_one h

  · obtain ⟨a, x, p, rfl, hf, ⟨px, rfl, hx⟩, ⟨np, sp⟩, _, q⟩ := h
    refine ⟨_, (pss_cons (ps_if (pt_cmpR op_ne (pv 0) pe_int (nomark _)) (pss_one (ps_ret (pe_tup (pa_cons (pe_op op_mod (pe_un un_neg (pe_ix ix_tup (pv 1) pe_int (fun _ _ => rfl))) (pv 0)) (pa_cons pe_int pa_nil))))) pss_nil) (pss_one (ps_ret (pe_tup (pa_cons (pe_un un_neg (pe_ix ix_tup (pv 1) pe_int (fun _ _ => rfl))) (pa_cons (pe_ix ix_tup (pv 1) pe_int (fun _ _ => rfl)) pa_nil)))))), ?_⟩
    refine ⟨_, rfl, rfl, _, rfl, ite2 (fun e => ?_) (fun e => ?_)⟩
    · have e := neE e
      have h2 := hf.two e
      refine ⟨_, rfl, px, _, _, _, rfl, rfl, hx, at0 _ _, _, rfl, _, rfl, _, _, rfl, rfl, (by show (0 : Int) < a; omega), (by show 2 ≤ sizeLine; decide), fun z hz => ?_⟩
      exact q.new (by unfold negN; rw [if_pos e]) hz
    · have e := neN e
      subst e
      refine ⟨_, rfl, px, _, _, _, rfl, rfl, hx, at0 _ _, _, rfl, _, rfl, px, _, _, _, rfl, rfl, hx, at1 _ _, (by show 2 ≤ sizeLine; decide), fun z hz => ?_⟩
      exact q.new (by unfold negN; rw [if_neg (by simp)]) hz
theorem nou_num {f : Int} {p : Pr} (hf : IsF f) (h : IsN f p) (h0 : p.1 ≠ 0) : nouB f p.1 = false := by
  rcases h with ⟨rfl, _⟩ | ⟨hn, _, h1, h2⟩
  · rw [nouB0]
    exact decide_eq_false h0
  · rw [nouB1 hn, Int.emod_eq_of_lt h1 h2]
    exact decide_eq_false h0
theorem d_flipped {P : Program} {w : World} {K : PySem.W.Frag} {mg : Str → Option Value} {base : Heap} (R : Raw K mg "flipped" s_flipped) (D_lowest : Def P w K mg base "lowest" 2 ["field", "top", "bottom"] (spLow K)) : Def P w K mg base "flipped" 3 ["field", "number"] (spOne K true invN) := by
  obtain ⟨f, fd, F, m⟩ := R
  obtain ⟨f_lowest, fd_lowest, G_lowest, m_lowest, k_lowest, b_lowest⟩ := D_lowest
  refine ⟨f, fd, F.ok sc_flipped (fun vs H Q E h => ?_) (fun cdv A outer s H vs Q E hr h => ?_), m, F.kp, F.binds (ps := ["field", "number"]) fun _ _ _ _ _ _ us hl => match us, hl with | [_, _], _ => rfl⟩
  · exact len_one h

  · obtain ⟨a, x, p, rfl, hf, ⟨px, rfl, hx⟩, ⟨np, sp⟩, h0, q⟩ := h
    have h0 := h0 rfl
    refine ⟨_, (pss_one (ps_ret (pe_call G_lowest (hr.mono (by omega)) (by rfl) m_lowest k_lowest b_lowest .nil pass0 (pa_cons (pv 0) (pa_cons (pe_ix ix_tup (pv 1) pe_int (fun _ _ => rfl)) (pa_cons (pe_ix ix_tup (pv 1) pe_int (fun _ _ => rfl)) pa_nil)))))), ?_⟩
    refine ⟨_, rfl, _, rfl, px, _, _, _, rfl, rfl, hx, at1 _ _, _, rfl, px, _, _, _, rfl, rfl, hx, at0 _ _, ?_⟩
    exact ⟨a, _, _, rfl, hf, nou_num hf np h0, fun _ => Nat.lt_trans sp.1 (Nat.pow_lt_pow_right (by decide) (by decide)), q⟩

/-! ## stalkweb.numbers, of what is good -/
def fieldsL : List Int := [0, 2, 3, 5, 7, 11, 13, 17, 19, 23, 29, 31, 37, 41, 43, 47, 53, 59, 61, 67, 71, 73, 79, 83, 89, 97]
def isFB (f : Int) : Bool := fieldsL.any fun x => decide (x = f)
theorem isFB_iff {f : Int} : isFB f = true ↔ IsF f := by
  unfold isFB
  rw [List.any_eq_true]
  constructor
  · rintro ⟨x, hx, e⟩
    have e := of_decide_eq_true e
    subst e
    have key : ∀ x ∈ fieldsL, x = 0 ∨ x.toNat ∈ primesN ∧ x = (x.toNat : Int) := by decide +kernel
    rcases key x hx with h | ⟨h1, h2⟩
    · exact .inl h
    · exact .inr ⟨_, h1, h2⟩
  · rintro (rfl | ⟨p, hp, rfl⟩)
    · exact ⟨0, by decide, by decide⟩
    · have key : ∀ p ∈ primesN, (p : Int) ∈ fieldsL := by decide +kernel
      exact ⟨_, key p hp, decide_eq_true rfl⟩
/-- FIELDS as it stands at the top -/
def FieldsAt (K : PySem.W.Frag) (mg : Str → Option Value) : Prop := ∃ a : Addr, mg "FIELDS" = some (.ref a) ∧ ∀ H : Hp, SqT K H a (fieldsL.map V.int)
theorem inV_int (f : Int) : ∀ l : List Int, inV (V.int f) (l.map V.int) = l.any fun x => decide (x = f)
  | [] => rfl
  | x :: l => by
    show (eqV (V.int x) (V.int f) || inV (V.int f) (l.map V.int)) = (decide (x = f) || l.any fun x => decide (x = f))
    rw [inV_int f l]
    congr 1
def spIsF : Sp := fun vs H Q _ => ∃ f : Int, vs = [.int f] ∧ Q (.bl (isFB f)) H
theorem len_is_field {vs H Q E} (h : spIsF vs H Q E) : vs.length = (["field"] : List Str).length := by
  obtain ⟨f, rfl, _⟩ := h
  rfl
theorem d_is_field {P : Program} {w : World} {K : PySem.W.Frag} {mg : Str → Option Value} {base : Heap} (R : Raw K mg "is_field" s_is_field) (TF : FieldsAt K mg)  : Def P w K mg base "is_field" 1 ["field"] (spIsF) := by
  obtain ⟨f, fd, F, m⟩ := R
  refine ⟨f, fd, F.ok sc_is_field (fun vs H Q E h => ?_) (fun cdv A outer s H vs Q E hr h => ?_), m, F.kp, F.binds (ps := ["field"]) fun _ _ _ _ _ _ us hl => match us, hl with | [_], _ => rfl⟩
  · exact len_is_field h

  · obtain ⟨a, rfl, q⟩ := h
    obtain ⟨a_FIELDS, m_FIELDS, sF⟩ := TF
    refine ⟨_, (pss_one (ps_ret (pe_cmpR op_in_seq (pv 0) (pe_glob (v := V.ref a_FIELDS) (by rfl) m_FIELDS rfl) (by rfl)))), ?_⟩
    refine ⟨_, rfl, a_FIELDS, _, rfl, .inr (sF H), rfl, by decide +kernel, ?_⟩
    show Q (V.bl (if false = true then !inV (V.int a) (fieldsL.map V.int) else inV (V.int a) (fieldsL.map V.int))) H
    rw [if_neg Bool.false_ne_true, inV_int]
    exact q
/-- whether it is a number of the field -/
def isNB (f : Int) (q : Pr) : Bool := if f = 0 then decide (1 ≤ q.2) && decide (((Nat.gcd q.1.natAbs q.2.natAbs : Nat) : Int) = 1) else decide (q.2 = 1) && (decide (0 ≤ q.1) && decide (q.1 < f))
theorem isNB_iff {f : Int} {q : Pr} : isNB f q = true ↔ IsN f q := by
  unfold isNB IsN
  by_cases h : f = 0
  · subst h
    rw [if_pos rfl, Bool.and_eq_true, decide_eq_true_iff, decide_eq_true_iff]
    constructor
    · rintro ⟨h1, h2⟩
      refine .inl ⟨rfl, h1, ?_⟩
      show Nat.gcd q.1.natAbs q.2.natAbs = 1
      omega
    · rintro (⟨_, h1, h2⟩ | ⟨h, _⟩)
      · have h2 : Nat.gcd q.1.natAbs q.2.natAbs = 1 := h2
        exact ⟨h1, by omega⟩
      · exact absurd rfl h
  · rw [if_neg h, Bool.and_eq_true, Bool.and_eq_true, decide_eq_true_iff, decide_eq_true_iff, decide_eq_true_iff]
    constructor
    · rintro ⟨h1, h2, h3⟩
      exact .inr ⟨h, h1, h2, h3⟩
    · rintro (⟨h', _⟩ | ⟨_, h1, h2, h3⟩)
      · exact absurd h' h
      · exact ⟨h1, h2, h3⟩
def spFits (K : PySem.W.Frag) : Sp := fun vs H Q _ => ∃ (f : Int) (x : V) (p : Pr), vs = [.int f, x] ∧ NumV K H x p ∧ Q (.bl (isNB f p)) H
theorem len_fits {K vs H Q E} (h : spFits K vs H Q E) : vs.length = (["field", "number"] : List Str).length := by
  obtain ⟨f, x, p, rfl, _⟩ := h
  rfl
theorem d_fits {P : Program} {w : World} {K : PySem.W.Frag} {mg : Str → Option Value} {base : Heap} (R : Raw K mg "fits" s_fits) (B : Bn mg)  : Def P w K mg base "fits" 1 ["field", "number"] (spFits K) := by
  obtain ⟨f, fd, F, m⟩ := R
  refine ⟨f, fd, F.ok sc_fits (fun vs H Q E h => ?_) (fun cdv A outer s H vs Q E hr h => ?_), m, F.kp, F.binds (ps := ["field", "number"]) fun _ _ _ _ _ _ us hl => match us, hl with | [_, _], _ => rfl⟩
  · exact len_fits h

  · obtain ⟨a, x, p, rfl, ⟨px, rfl, hx⟩, q⟩ := h
    refine ⟨_, (pss_cons (ps_asg (pv 1) (pg_tup (by rfl) (pgs_cons (pg_name (i := 2) sc_fits.nd rfl (Or.inl rfl)) (pgs_cons (pg_name (i := 3) sc_fits.nd rfl (Or.inl rfl)) pgs_nil)))) (pss_cons (ps_if (pt_cmpR op_eq (pv 0) pe_int (nomark _)) (pss_one (ps_ret (pe_and (pe_cmpR op_ge (pv 3) pe_int (nomark _)) (pe_one (pe_cmpR op_eq (pe_callBfun cr_gcd (by rfl) B.gcd (pa_cons (pv 2) (pa_cons (pv 3) pa_nil))) pe_int (nomark _)))))) pss_nil) (pss_one (ps_ret (pe_and (pe_cmpR op_eq (pv 3) pe_int (nomark _)) (pe_one (pe_chain op_le op_lt pe_int (pv 2) (pv 0)))))))), ?_⟩
    refine ⟨_, rfl, px, _, rfl, hx, rfl, _, _, rfl, _, _, rfl, rfl, ?_⟩
    refine ⟨_, rfl, rfl, _, rfl, ite2 (fun e => ?_) (fun e => ?_)⟩
    · have e := eqI e
      subst e
      have q : Q (.bl (decide (1 ≤ p.2) && decide (((Nat.gcd p.1.natAbs p.2.natAbs : Nat) : Int) = 1))) H := q
      refine ⟨_, rfl, _, _, rfl, rfl, _, rfl, ite2 (fun e => ?_) (fun e => ?_)⟩
      · refine ⟨_, rfl, _, rfl, _, _, rfl, rfl, ?_⟩
        rw [decI]
        rw [e, Bool.true_and] at q
        exact q
      · rw [eq_false_of_ne_true e, Bool.false_and] at q
        exact q
    · have e := neI e
      have q : Q (.bl (decide (p.2 = 1) && (decide (0 ≤ p.1) && decide (p.1 < a)))) H := by
        have q := q
        unfold isNB at q
        rw [if_neg e] at q
        exact q
      refine ⟨_, rfl, rfl, _, rfl, ?_⟩
      rw [decI]
      refine ite2 (fun e => ?_) (fun e => ?_)
      · rw [e, Bool.true_and] at q
        refine ⟨_, rfl, _, _, rfl, rfl, _, rfl, ite2 (fun e => ?_) (fun e => ?_)⟩
        · rw [e, Bool.true_and] at q
          exact ⟨_, rfl, _, _, rfl, rfl, q⟩
        · rw [eq_false_of_ne_true e, Bool.false_and] at q
          exact q
      · rw [eq_false_of_ne_true e, Bool.false_and] at q
        exact q
/-- values that are numbers -/
def NumsV (K : PySem.W.Frag) (H : Hp) (vs : List V) (qs : List Pr) : Prop := Paired (NumV K H) vs qs
theorem NumsV.same {K : PySem.W.Frag} {H H' : Hp} (e : Same H H') : ∀ {vs : List V} {qs : List Pr}, NumsV K H vs qs → NumsV K H' vs qs
  | _, _, .nil => .nil
  | _, _, .cons h t => .cons (h.same e) (NumsV.same e t)
theorem NumsV.get {K : PySem.W.Frag} {H : Hp} : ∀ {vs : List V} {qs : List Pr} {i : Nat} {x : V}, NumsV K H vs qs → vs[i]? = some x → ∃ q, qs[i]? = some q ∧ NumV K H x q
  | _, _, _, _, .nil, e => by simp at e
  | _, _, 0, _, .cons r _, e => by simp at e; subst e; exact ⟨_, rfl, r⟩
  | _, _, i + 1, x, .cons _ t, e => by
    obtain ⟨u, h1, h2⟩ := NumsV.get (i := i) (x := x) t (by simpa using e)
    exact ⟨u, by simpa using h1, h2⟩

/-! ## stalkweb.numbers, with its refusals -/
def spChkX (K : PySem.W.Frag) (CW : Addr) : Sp := fun vs H Q E => ∃ f : Int, vs = [.int f] ∧ (IsF f → Q .non H) ∧ (¬ IsF f → Raised K CW "badfield" H E)
theorem len_check_field {K CW vs H Q E} (h : spChkX K CW vs H Q E) : vs.length = (["field"] : List Str).length := by
  obtain ⟨f, rfl, _⟩ := h
  rfl
theorem d_check_field {P : Program} {w : World} {K : PySem.W.Frag} {mg : Str → Option Value} {base : Heap} {CW fI : Addr} (R : Raw K mg "check_field" s_check_field) (D_is_field : Def P w K mg base "is_field" 1 ["field"] (spIsF)) {C_BadField : Addr} (E_BadField : ErrC K mg CW "BadField" C_BadField fI "badfield") {fdI : FuncData} (G_init : IniAt P w K mg base fI fdI) : DefX P w K mg base "check_field" 3 ["field"] (spChkX K CW) := by
  obtain ⟨f, fd, F, m⟩ := R
  obtain ⟨f_is_field, fd_is_field, G_is_field, m_is_field, k_is_field, b_is_field⟩ := D_is_field
  refine ⟨f, fd, F.okX sc_check_field (fun vs H Q E h => ?_) (fun cdv A outer s H vs Q E hr h => ?_), m, F.kp, F.binds (ps := ["field"]) fun _ _ _ _ _ _ us hl => match us, hl with | [_], _ => rfl⟩
  · exact len_check_field h

  · obtain ⟨a, rfl, q, qx⟩ := h
    refine ⟨_, (pss_one (ps_if (pt_not (pt_val (pe_call G_is_field (hr.mono (by omega)) (by rfl) m_is_field k_is_field b_is_field .nil pass0 (pa_cons (pv 0) pa_nil)))) (pss_one (ps_raise rfl (takes_of rfl rfl rfl rfl) (pmk_oex E_BadField.oex E_BadField.iC G_init.ty G_init.ok (hr.mono (by omega)) G_init.bd .nil pass0 (by rfl) E_BadField.mgC (pa_cons pe_str pa_nil)))) pss_nil)), ?_⟩
    refine ⟨_, rfl, a, rfl, _, rfl, ?_⟩
    by_cases hf : IsF a
    · rw [isFB_iff.mpr hf]
      exact iteF (q hf)
    · have e : isFB a = false := eq_false_of_ne_true fun z => hf (isFB_iff.mp z)
      rw [e]
      refine iteT ⟨by show 1 ≤ 1000; decide, raise_read E_BadField (qx hf)⟩

/-! ## sums and products, with their refusals -/
theorem all_take {bs : List Bool} : (bs.all id = true) ↔ ∀ b ∈ bs, b = true := by
  rw [List.all_eq_true]
  exact Iff.rfl
/-- numbers are looked at -/
def goodAll (f : Int) (qs : List Pr) : Bool := qs.all fun q => isNB f q
def spChkNX (K : PySem.W.Frag) (CW : Addr) : Sp := fun vs H Q E => ∃ (f : Int) (p : Addr) (xs : List V) (qs : List Pr), vs = [.int f, .ref p] ∧ SqT K H p xs ∧ NumsV K H xs qs ∧ xs.length ≤ 1000 ∧ (goodAll f qs = true → ∀ H', Same H H' → Q .non H') ∧ (goodAll f qs = false → Raised K CW "badnumber" H E)
theorem len_check_numbers {K CW vs H Q E} (h : spChkNX K CW vs H Q E) : vs.length = (["field", "numbers"] : List Str).length := by
  obtain ⟨f, p, xs, qs, rfl, _⟩ := h
  rfl
theorem d_check_numbers {P : Program} {w : World} {K : PySem.W.Frag} {mg : Str → Option Value} {base : Heap} {CW fI : Addr} (R : Raw K mg "check_numbers" s_check_numbers) (B : Bn mg) (D_fits : Def P w K mg base "fits" 1 ["field", "number"] (spFits K)) {C_BadNumber : Addr} (E_BadNumber : ErrC K mg CW "BadNumber" C_BadNumber fI "badnumber") {fdI : FuncData} (G_init : IniAt P w K mg base fI fdI) : DefX P w K mg base "check_numbers" 3 ["field", "numbers"] (spChkNX K CW) := by
  obtain ⟨f, fd, F, m⟩ := R
  obtain ⟨f_fits, fd_fits, G_fits, m_fits, k_fits, b_fits⟩ := D_fits
  refine ⟨f, fd, F.okX sc_check_numbers (fun vs H Q E h => ?_) (fun cdv A outer s H vs Q E hr h => ?_), m, F.kp, F.binds (ps := ["field", "numbers"]) fun _ _ _ _ _ _ us hl => match us, hl with | [_, _], _ => rfl⟩
  · exact len_check_numbers h

  · obtain ⟨a, p, xs, qs, rfl, hx, hv, hl, q, qx⟩ := h
    refine ⟨_, (pss_one (ps_if (pt_not (pt_val (pe_callB (cr_all rfl) (by rfl) B.all (by decide +kernel) (pa_cons (pe_lc (own := [("number", 2)]) (g := gName 2) (tt := tYes) rfl sc_check_numbers.nd (pi_tup (pv 1)) (blkOk_by (N := ["field", "numbers", "number"]) (sc := defScope s_check_numbers) (by decide +kernel)) (fun _ _ _ _ _ => pg_name (i := 2) sc_check_numbers.nd rfl (Or.inl rfl)) (fun _ _ _ _ _ => pts_nil) (fun _ _ _ _ _ => (pe_call G_fits (hr.mono (by omega)) (by rfl) m_fits k_fits b_fits .nil pass0 (pa_cons (pv 0) (pa_cons (pv 2) pa_nil))))) pa_nil)))) (pss_one (ps_raise rfl (takes_of rfl rfl rfl rfl) (pmk_oex E_BadNumber.oex E_BadNumber.iC G_init.ty G_init.ok (hr.mono (by omega)) G_init.bd .nil pass0 (by rfl) E_BadNumber.mgC (pa_cons pe_str pa_nil)))) pss_nil)), ?_⟩
    have lq : xs.length = qs.length := Paired.length hv
    refine ⟨_, rfl, p, rfl, ⟨_, hx⟩, fun D hD => lc_tup (K := K) (a := p) (xs := xs) (fun i H' => Same H H' ∧ H' D = some (.lst ((qs.take i).map fun q => V.bl (isNB a q))))
      ⟨same_new hD, upd_same⟩ (fun i H' _ ⟨s, _⟩ => Same.seqT s hx) ?_ ?_⟩
    · rintro i x H' hi ⟨s, hD'⟩
      obtain ⟨r, hr1, hr2⟩ := hv.get hi
      have hil := (List.getElem?_eq_some_iff.mp hi).1
      refine ⟨rfl, tYes_of (iteT ?_)⟩
      refine ⟨_, rfl, _, rfl, a, x, r, rfl, hr2.same s, ?_⟩
      refine ⟨_, hD', by rw [List.length_map, List.length_take]; exact small1000 (by omega), same_seqT_upd s hD hD', ?_⟩
      rw [upd_same, List.take_add_one, hr1, List.map_append]
      rfl
    · rintro H' ⟨s, hD'⟩
      rw [lq, List.take_length] at hD'
      refine ⟨D, qs.map fun q => isNB a q, rfl, ?_, ?_⟩
      · rw [List.map_map]
        exact SqL.of hD'
      · have e : (qs.map fun q => isNB a q).all id = goodAll a qs := by
          unfold goodAll
          rw [List.all_map]
          rfl
        rw [e]
        cases hg : goodAll a qs with
        | true => exact ⟨_, rfl, iteF (q hg H' s)⟩
        | false => exact ⟨_, rfl, iteT ⟨by show 1 ≤ 1000; decide, raise_read E_BadNumber ((qx hg).same s)⟩⟩
def spTwoX (K : PySem.W.Frag) (CW : Addr) (g : Int → Pr → Pr → Pr) : Sp := fun vs H Q E => ∃ (f : Int) (x y : V) (p q : Pr), vs = [.int f, x, y] ∧ NumV K H x p ∧ NumV K H y q ∧ Sm 4000 p ∧ Sm 4000 q ∧
  (IsF f → isNB f p = true → isNB f q = true → RetN K H Q (g f p q)) ∧ (IsF f → (isNB f p && isNB f q) = false → Raised K CW "badnumber" H E) ∧ (¬ IsF f → Raised K CW "badfield" H E)
theorem len_twoX {K CW g vs H Q E} (h : spTwoX K CW g vs H Q E) : vs.length = (["field", "one", "other"] : List Str).length := by
  obtain ⟨f, x, y, p, q, rfl, _⟩ := h
  rfl
theorem good2 (f : Int) (p q : Pr) : goodAll f [p, q] = (isNB f p && isNB f q) := by
  unfold goodAll
  rw [List.all_cons, List.all_cons, List.all_nil, Bool.and_true]
theorem good1 (f : Int) (p : Pr) : goodAll f [p] = isNB f p := by
  unfold goodAll
  rw [List.all_cons, List.all_nil, Bool.and_true]
theorem RetN.same {K : PySem.W.Frag} {H H1 : Hp} {Q : VK} {q : Pr} (h : RetN K H Q q) (s : Same H H1) : RetN K H1 Q q := fun H' v s' hv => h H' v (s.trans s') hv
theorem d_plus {P : Program} {w : World} {K : PySem.W.Frag} {mg : Str → Option Value} {base : Heap} {CW fI : Addr} (R : Raw K mg "plus" s_plus) (D_check_field : DefX P w K mg base "check_field" 3 ["field"] (spChkX K CW)) (D_check_numbers : DefX P w K mg base "check_numbers" 3 ["field", "numbers"] (spChkNX K CW)) (D_added : Def P w K mg base "added" 1 ["field", "one", "other"] (spTwo K addN)) : DefX P w K mg base "plus" 4 ["field", "one", "other"] (spTwoX K CW addN) := by
  obtain ⟨f, fd, F, m⟩ := R
  obtain ⟨f_check_field, fd_check_field, G_check_field, m_check_field, k_check_field, b_check_field⟩ := D_check_field
  obtain ⟨f_check_numbers, fd_check_numbers, G_check_numbers, m_check_numbers, k_check_numbers, b_check_numbers⟩ := D_check_numbers
  obtain ⟨f_added, fd_added, G_added, m_added, k_added, b_added⟩ := D_added
  refine ⟨f, fd, F.okX sc_plus (fun vs H Q E h => ?_) (fun cdv A outer s H vs Q E hr h => ?_), m, F.kp, F.binds (ps := ["field", "one", "other"]) fun _ _ _ _ _ _ us hl => match us, hl with | [_, _, _], _ => rfl⟩
  · exact len_twoX h

  · obtain ⟨a, x, y, p, r, rfl, hx, hy, sp, sr, q, qn, qx⟩ := h
    refine ⟨_, (pss_cons (ps_expr (pe_call G_check_field (hr.mono (by omega)) (by rfl) m_check_field k_check_field b_check_field .nil (passes_call (takes_of rfl rfl rfl rfl) (fun _ _ _ _ h => h)) (pa_cons (pv 0) pa_nil))) (pss_cons (ps_expr (pe_call G_check_numbers (hr.mono (by omega)) (by rfl) m_check_numbers k_check_numbers b_check_numbers .nil (passes_call (takes_of rfl rfl rfl rfl) (fun _ _ _ _ h => h)) (pa_cons (pv 0) (pa_cons (pe_tup (pa_cons (pv 1) (pa_cons (pv 2) pa_nil))) pa_nil)))) (pss_one (ps_ret (pe_call G_added (hr.mono (by omega)) (by rfl) m_added k_added b_added .nil pass0 (pa_cons (pv 0) (pa_cons (pv 1) (pa_cons (pv 2) pa_nil)))))))), ?_⟩
    refine ⟨_, rfl, a, rfl, fun hf => ?_, qx⟩
    refine ⟨_, rfl, _, rfl, _, rfl, (by show 2 ≤ sizeLine; decide), fun z hz => ?_⟩
    have s1 : Same H (upd H z (.tup [x, y])) := same_new hz
    refine ⟨a, z, [x, y], [p, r], rfl, SqT.of upd_same, .cons (hx.same s1) (.cons (hy.same s1) .nil), by show 2 ≤ 1000; decide, fun hg H' s2 => ?_, fun hg => ?_⟩
    · rw [good2, Bool.and_eq_true] at hg
      have s3 := s1.trans s2
      exact ⟨_, rfl, _, rfl, _, rfl, a, x, y, p, r, rfl, hf, hx.same s3, hy.same s3, ⟨isNB_iff.mp hg.1, sp⟩, ⟨isNB_iff.mp hg.2, sr⟩, (q hf hg.1 hg.2).same s3⟩
    · rw [good2] at hg
      exact (qn hf hg).same s1
theorem d_times {P : Program} {w : World} {K : PySem.W.Frag} {mg : Str → Option Value} {base : Heap} {CW fI : Addr} (R : Raw K mg "times" s_times) (D_check_field : DefX P w K mg base "check_field" 3 ["field"] (spChkX K CW)) (D_check_numbers : DefX P w K mg base "check_numbers" 3 ["field", "numbers"] (spChkNX K CW)) (D_multiplied : Def P w K mg base "multiplied" 3 ["field", "one", "other"] (spTwo K mulN)) : DefX P w K mg base "times" 4 ["field", "one", "other"] (spTwoX K CW mulN) := by
  obtain ⟨f, fd, F, m⟩ := R
  obtain ⟨f_check_field, fd_check_field, G_check_field, m_check_field, k_check_field, b_check_field⟩ := D_check_field
  obtain ⟨f_check_numbers, fd_check_numbers, G_check_numbers, m_check_numbers, k_check_numbers, b_check_numbers⟩ := D_check_numbers
  obtain ⟨f_multiplied, fd_multiplied, G_multiplied, m_multiplied, k_multiplied, b_multiplied⟩ := D_multiplied
  refine ⟨f, fd, F.okX sc_times (fun vs H Q E h => ?_) (fun cdv A outer s H vs Q E hr h => ?_), m, F.kp, F.binds (ps := ["field", "one", "other"]) fun _ _ _ _ _ _ us hl => match us, hl with | [_, _, _], _ => rfl⟩
  · exact len_twoX h

  · obtain ⟨a, x, y, p, r, rfl, hx, hy, sp, sr, q, qn, qx⟩ := h
    refine ⟨_, (pss_cons (ps_expr (pe_call G_check_field (hr.mono (by omega)) (by rfl) m_check_field k_check_field b_check_field .nil (passes_call (takes_of rfl rfl rfl rfl) (fun _ _ _ _ h => h)) (pa_cons (pv 0) pa_nil))) (pss_cons (ps_expr (pe_call G_check_numbers (hr.mono (by omega)) (by rfl) m_check_numbers k_check_numbers b_check_numbers .nil (passes_call (takes_of rfl rfl rfl rfl) (fun _ _ _ _ h => h)) (pa_cons (pv 0) (pa_cons (pe_tup (pa_cons (pv 1) (pa_cons (pv 2) pa_nil))) pa_nil)))) (pss_one (ps_ret (pe_call G_multiplied (hr.mono (by omega)) (by rfl) m_multiplied k_multiplied b_multiplied .nil pass0 (pa_cons (pv 0) (pa_cons (pv 1) (pa_cons (pv 2) pa_nil)))))))), ?_⟩
    refine ⟨_, rfl, a, rfl, fun hf => ?_, qx⟩
    refine ⟨_, rfl, _, rfl, _, rfl, (by show 2 ≤ sizeLine; decide), fun z hz => ?_⟩
    have s1 : Same H (upd H z (.tup [x, y])) := same_new hz
    refine ⟨a, z, [x, y], [p, r], rfl, SqT.of upd_same, .cons (hx.same s1) (.cons (hy.same s1) .nil), by show 2 ≤ 1000; decide, fun hg H' s2 => ?_, fun hg => ?_⟩
    · rw [good2, Bool.and_eq_true] at hg
      have s3 := s1.trans s2
      exact ⟨_, rfl, _, rfl, _, rfl, a, x, y, p, r, rfl, hf, hx.same s3, hy.same s3, ⟨isNB_iff.mp hg.1, sp⟩, ⟨isNB_iff.mp hg.2, sr⟩, (q hf hg.1 hg.2).same s3⟩
    · rw [good2] at hg
      exact (qn hf hg).same s1
def spLessX (K : PySem.W.Frag) (CW : Addr) : Sp := fun vs H Q E => ∃ (f : Int) (x : V) (p : Pr), vs = [.int f, x] ∧ NumV K H x p ∧ Sm 4000 p ∧
  (IsF f → isNB f p = true → RetN K H Q (negN f p)) ∧ (IsF f → isNB f p = false → Raised K CW "badnumber" H E) ∧ (¬ IsF f → Raised K CW "badfield" H E)
theorem len_less {K CW vs H Q E} (h : spLessX K CW vs H Q E) : vs.length = (["field", "number"] : List Str).length := by
  obtain ⟨f, x, p, rfl, _⟩ := h
  rfl
theorem d_less {P : Program} {w : World} {K : PySem.W.Frag} {mg : Str → Option Value} {base : Heap} {CW fI : Addr} (R : Raw K mg "less" s_less) (D_check_field : DefX P w K mg base "check_field" 3 ["field"] (spChkX K CW)) (D_check_numbers : DefX P w K mg base "check_numbers" 3 ["field", "numbers"] (spChkNX K CW)) (D_negative : Def P w K mg base "negative" 1 ["field", "number"] (spOne K false negN)) : DefX P w K mg base "less" 4 ["field", "number"] (spLessX K CW) := by
  obtain ⟨f, fd, F, m⟩ := R
  obtain ⟨f_check_field, fd_check_field, G_check_field, m_check_field, k_check_field, b_check_field⟩ := D_check_field
  obtain ⟨f_check_numbers, fd_check_numbers, G_check_numbers, m_check_numbers, k_check_numbers, b_check_numbers⟩ := D_check_numbers
  obtain ⟨f_negative, fd_negative, G_negative, m_negative, k_negative, b_negative⟩ := D_negative
  refine ⟨f, fd, F.okX sc_less (fun vs H Q E h => ?_) (fun cdv A outer s H vs Q E hr h => ?_), m, F.kp, F.binds (ps := ["field", "number"]) fun _ _ _ _ _ _ us hl => match us, hl with | [_, _], _ => rfl⟩
  · exact len_less h

  · obtain ⟨a, x, p, rfl, hx, sp, q, qn, qx⟩ := h
    refine ⟨_, (pss_cons (ps_expr (pe_call G_check_field (hr.mono (by omega)) (by rfl) m_check_field k_check_field b_check_field .nil (passes_call (takes_of rfl rfl rfl rfl) (fun _ _ _ _ h => h)) (pa_cons (pv 0) pa_nil))) (pss_cons (ps_expr (pe_call G_check_numbers (hr.mono (by omega)) (by rfl) m_check_numbers k_check_numbers b_check_numbers .nil (passes_call (takes_of rfl rfl rfl rfl) (fun _ _ _ _ h => h)) (pa_cons (pv 0) (pa_cons (pe_tup (pa_cons (pv 1) pa_nil)) pa_nil)))) (pss_one (ps_ret (pe_call G_negative (hr.mono (by omega)) (by rfl) m_negative k_negative b_negative .nil pass0 (pa_cons (pv 0) (pa_cons (pv 1) pa_nil))))))), ?_⟩
    refine ⟨_, rfl, a, rfl, fun hf => ?_, qx⟩
    refine ⟨_, rfl, _, rfl, (by show 1 ≤ sizeLine; decide), fun z hz => ?_⟩
    have s1 : Same H (upd H z (.tup [x])) := same_new hz
    refine ⟨a, z, [x], [p], rfl, SqT.of upd_same, .cons (hx.same s1) .nil, by show 1 ≤ 1000; decide, fun hg H' s2 => ?_, fun hg => ?_⟩
    · rw [good1] at hg
      have s3 := s1.trans s2
      exact ⟨_, rfl, _, rfl, a, x, p, rfl, hf, hx.same s3, ⟨isNB_iff.mp hg, sp⟩, (fun z => Bool.noConfusion z), (q hf hg).same s3⟩
    · rw [good1] at hg
      exact (qn hf hg).same s1
def spOverX (K : PySem.W.Frag) (CW : Addr) : Sp := fun vs H Q E => ∃ (f : Int) (x : V) (p : Pr), vs = [.int f, x] ∧ NumV K H x p ∧ Sm 4000 p ∧
  (IsF f → isNB f p = true → p.1 ≠ 0 → RetN K H Q (invN f p)) ∧ (IsF f → isNB f p = true → p.1 = 0 → Raised K CW "nought" H E) ∧ (IsF f → isNB f p = false → Raised K CW "badnumber" H E) ∧ (¬ IsF f → Raised K CW "badfield" H E)
theorem len_over {K CW vs H Q E} (h : spOverX K CW vs H Q E) : vs.length = (["field", "number"] : List Str).length := by
  obtain ⟨f, x, p, rfl, _⟩ := h
  rfl
theorem nou0 {f : Int} : nouB f 0 = true := by
  by_cases h0 : f = 0
  · subst h0
    rfl
  · rw [nouB1 h0, Int.zero_emod]
    rfl
theorem d_over {P : Program} {w : World} {K : PySem.W.Frag} {mg : Str → Option Value} {base : Heap} {CW fI : Addr} (R : Raw K mg "over" s_over) (D_check_field : DefX P w K mg base "check_field" 3 ["field"] (spChkX K CW)) (D_check_numbers : DefX P w K mg base "check_numbers" 3 ["field", "numbers"] (spChkNX K CW)) (D_is_nought : Def P w K mg base "is_nought" 1 ["field", "whole"] (spNou)) (D_flipped : Def P w K mg base "flipped" 3 ["field", "number"] (spOne K true invN)) {C_Nought : Addr} (E_Nought : ErrC K mg CW "Nought" C_Nought fI "nought") {fdI : FuncData} (G_init : IniAt P w K mg base fI fdI) : DefX P w K mg base "over" 4 ["field", "number"] (spOverX K CW) := by
  obtain ⟨f, fd, F, m⟩ := R
  obtain ⟨f_check_field, fd_check_field, G_check_field, m_check_field, k_check_field, b_check_field⟩ := D_check_field
  obtain ⟨f_check_numbers, fd_check_numbers, G_check_numbers, m_check_numbers, k_check_numbers, b_check_numbers⟩ := D_check_numbers
  obtain ⟨f_is_nought, fd_is_nought, G_is_nought, m_is_nought, k_is_nought, b_is_nought⟩ := D_is_nought
  obtain ⟨f_flipped, fd_flipped, G_flipped, m_flipped, k_flipped, b_flipped⟩ := D_flipped
  refine ⟨f, fd, F.okX sc_over (fun vs H Q E h => ?_) (fun cdv A outer s H vs Q E hr h => ?_), m, F.kp, F.binds (ps := ["field", "number"]) fun _ _ _ _ _ _ us hl => match us, hl with | [_, _], _ => rfl⟩
  · exact len_over h

  · obtain ⟨a, x, p, rfl, hx, sp, q, q0, qn, qx⟩ := h
    refine ⟨_, (pss_cons (ps_expr (pe_call G_check_field (hr.mono (by omega)) (by rfl) m_check_field k_check_field b_check_field .nil (passes_call (takes_of rfl rfl rfl rfl) (fun _ _ _ _ h => h)) (pa_cons (pv 0) pa_nil))) (pss_cons (ps_expr (pe_call G_check_numbers (hr.mono (by omega)) (by rfl) m_check_numbers k_check_numbers b_check_numbers .nil (passes_call (takes_of rfl rfl rfl rfl) (fun _ _ _ _ h => h)) (pa_cons (pv 0) (pa_cons (pe_tup (pa_cons (pv 1) pa_nil)) pa_nil)))) (pss_cons (ps_if (pt_val (pe_call G_is_nought (hr.mono (by omega)) (by rfl) m_is_nought k_is_nought b_is_nought .nil pass0 (pa_cons (pv 0) (pa_cons (pe_ix ix_tup (pv 1) pe_int (fun _ _ => rfl)) pa_nil)))) (pss_one (ps_raise rfl (takes_of rfl rfl rfl rfl) (pmk_oex E_Nought.oex E_Nought.iC G_init.ty G_init.ok (hr.mono (by omega)) G_init.bd .nil pass0 (by rfl) E_Nought.mgC (pa_cons pe_str pa_nil)))) pss_nil) (pss_one (ps_ret (pe_call G_flipped (hr.mono (by omega)) (by rfl) m_flipped k_flipped b_flipped .nil pass0 (pa_cons (pv 0) (pa_cons (pv 1) pa_nil)))))))), ?_⟩
    refine ⟨_, rfl, a, rfl, fun hf => ?_, qx⟩
    refine ⟨_, rfl, _, rfl, (by show 1 ≤ sizeLine; decide), fun z hz => ?_⟩
    have s1 : Same H (upd H z (.tup [x])) := same_new hz
    refine ⟨a, z, [x], [p], rfl, SqT.of upd_same, .cons (hx.same s1) .nil, by show 1 ≤ 1000; decide, fun hg H' s2 => ?_, fun hg => ?_⟩
    · rw [good1] at hg
      have s3 := s1.trans s2
      obtain ⟨px, rfl, hx3⟩ := hx.same s3
      refine ⟨_, rfl, _, rfl, px, _, _, _, rfl, rfl, hx3, at0 _ _, a, _, rfl, hf.nn, _, rfl, ?_⟩
      by_cases h0 : p.1 = 0
      · rw [h0, nou0]
        exact iteT ⟨by show 1 ≤ 1000; decide, raise_read E_Nought ((q0 hf hg h0).same s3)⟩
      · rw [nou_num hf (isNB_iff.mp hg) h0]
        exact iteF ⟨_, rfl, _, rfl, a, _, p, rfl, hf, ⟨px, rfl, hx3⟩, ⟨isNB_iff.mp hg, sp⟩, (fun _ => h0), (q hf hg h0).same s3⟩
    · rw [good1] at hg
      exact (qn hf hg).same s1

/-! ## the law's draws -/
/-- the box of draws at its place: the cells' copy at l, how many are read, what is left of a great one, the seed, the count -/
def BoxAt (H : Hp) (box l : Addr) : Prop := ∃ (ns : List Int) (i : Nat) (x s c : Int), H box = some (.lst [.ref l, .int i, .int x, .int s, .int c]) ∧ H l = some (.lst (ns.map V.int)) ∧ l ≠ box ∧ 0 ≤ s ∧ s < 2147483647
def Keep (box : Addr) (H H' : Hp) : Prop := ∀ b o, b ≠ box → H b = some o → H' b = some o
structure Stp (box l : Addr) (H H' : Hp) : Prop where
  keep : Keep box H H'
  box : BoxAt H' box l
theorem Keep.refl (box : Addr) (H : Hp) : Keep box H H := fun _ _ _ h => h
theorem Keep.trans {box : Addr} {H H1 H2 : Hp} (a : Keep box H H1) (b : Keep box H1 H2) : Keep box H H2 := fun c o n h => b c o n (a c o n h)
theorem Keep.upd {box : Addr} {H H1 : Hp} {o : HO} (a : Keep box H H1) : Keep box H (upd H1 box o) := fun c u n h => by
  rw [upd_ne n]
  exact a c u n h
theorem Keep.of {box : Addr} {H H1 : Hp} (a : Same H H1) : Keep box H H1 := fun c u _ h => a c u h
theorem Stp.trans {box l : Addr} {H H1 H2 : Hp} (a : Stp box l H H1) (b : Stp box l H1 H2) : Stp box l H H2 := ⟨a.keep.trans b.keep, b.box⟩
theorem BoxAt.same {H H1 : Hp} {box l : Addr} (h : BoxAt H box l) (e : Same H H1) : BoxAt H1 box l := by
  obtain ⟨ns, i, x, s, c, h1, h2, h3⟩ := h
  exact ⟨ns, i, x, s, c, e _ _ h1, e _ _ h2, h3⟩
theorem Stp.same {H H1 H2 : Hp} {box l : Addr} (h : Stp box l H H1) (e : Same H1 H2) : Stp box l H H2 := ⟨h.keep.trans (Keep.of e), h.box.same e⟩
theorem Stp.refl {H : Hp} {box l : Addr} (h : BoxAt H box l) : Stp box l H H := ⟨Keep.refl _ _, h⟩
/-- a list that was made beside the box is written -/
theorem Stp.put {H H1 : Hp} {box l D : Addr} {o : HO} (h : Stp box l H H1) (hb : BoxAt H box l) (hD : H D = none) : Stp box l H (upd H1 D o) := by
  obtain ⟨k, ns, i, x, s, c, h1, h2, h3⟩ := h
  obtain ⟨_, _, _, _, _, g1, g2, _⟩ := hb
  refine ⟨fun b u n q => ?_, ns, i, x, s, c, ?_, ?_, h3⟩
  · rw [upd_ne (ne_of_none q hD)]
    exact k b u n q
  · rw [upd_ne (ne_of_none g1 hD)]
    exact h1
  · rw [upd_ne (ne_of_none g2 hD)]
    exact h2
theorem BoxAt.ne {H : Hp} {box l D : Addr} (hb : BoxAt H box l) (hD : H D = none) : D ≠ box := by
  obtain ⟨_, _, _, _, _, g1, _⟩ := hb
  exact (ne_of_none g1 hD).symm
/-- numbers stand through draws: a number is not the box -/
theorem NumV.keep {K : PySem.W.Frag} {H H' : Hp} {box l : Addr} {v : V} {q : Pr} (h : NumV K H v q) (hb : BoxAt H box l) (e : Keep box H H') : NumV K H' v q := by
  obtain ⟨p, h1, h2⟩ := h
  obtain ⟨ns, i, x, s, c, b1, _⟩ := hb
  refine ⟨p, h1, ?_⟩
  rcases h2 with (h | ⟨o, h⟩) | h
  · refine .inl (.inl (e _ _ (fun z => ?_) h))
    rw [z, b1] at h
    cases h
  · refine .inl (.inr ⟨o, e _ _ (fun z => ?_) h⟩)
    rw [z, b1] at h
    cases h
  · exact .inr h
theorem a50 (a b c d e : V) : atI [a, b, c, d, e] 0 = some a := rfl
theorem a51 (a b c d e : V) : atI [a, b, c, d, e] 1 = some b := rfl
theorem a52 (a b c d e : V) : atI [a, b, c, d, e] 2 = some c := rfl
theorem a53 (a b c d e : V) : atI [a, b, c, d, e] 3 = some d := rfl
theorem a54 (a b c d e : V) : atI [a, b, c, d, e] 4 = some e := rfl
theorem cpow {i j : Int} (h0 : 0 ≤ j) (h1 : j ≤ 1000000) (h2 : i.natAbs < 2 ^ 64) : CPow i j := ⟨h0, h1, h2⟩
def spDraw : Sp := fun vs H Q _ => ∃ (box l : Addr) (many : Int), vs = [.ref box, .int many] ∧ BoxAt H box l ∧ 0 < many ∧ many.natAbs.log2 < 9000 ∧ ∀ H' r, Stp box l H H' → 0 ≤ r → r < many → Q (.int r) H'
theorem len__law_draw {vs H Q E} (h : spDraw vs H Q E) : vs.length = (["_law_box", "_law_many"] : List Str).length := by
  obtain ⟨f, w, z, rfl, _⟩ := h
  rfl
theorem pos_of {j : Int} (h : 0 < j) : (fun (_ j : Int) => 0 < j) (0 : Int) j := h
theorem box_upd {H H1 : Hp} {box l : Addr} {ns : List Int} {i : Nat} {x s c : Int} (k : Keep box H H1) (b2 : H1 l = some (.lst (ns.map V.int))) (b3 : l ≠ box) (b4 : 0 ≤ s) (b5 : s < 2147483647)   : Stp box l H (upd H1 box (.lst [.ref l, .int i, .int x, .int s, .int c])) :=
  ⟨k.upd, ns, i, x, s, c, upd_same, by rw [upd_ne b3]; exact b2, b3, b4, b5⟩
theorem d__law_draw {P : Program} {w : World} {K : PySem.W.Frag} {mg : Str → Option Value} {base : Heap} (R : Raw K mg "_law_draw" s__law_draw) (B : Bn mg)  : Def P w K mg base "_law_draw" 1 ["_law_box", "_law_many"] (spDraw) := by
  obtain ⟨f, fd, F, m⟩ := R
  refine ⟨f, fd, F.ok sc__law_draw (fun vs H Q E h => ?_) (fun cdv A outer s H vs Q E hr h => ?_), m, F.kp, F.binds (ps := ["_law_box", "_law_many"]) fun _ _ _ _ _ _ us hl => match us, hl with | [_, _], _ => rfl⟩
  · exact len__law_draw h

  · obtain ⟨box, l, many, rfl, hbox, hm, hml, q⟩ := h
    refine ⟨_, (pss_cons (ps_if (PW.pt (pw_and (pt_cmpR op_lt (pe_ix ix_list (pv 0) pe_int (fun _ _ => rfl)) pe_int (nomark _)) (pw_and1 (pt_cmpR op_lt (pe_ix ix_list (pv 0) pe_int (fun _ _ => rfl)) (pe_callB call_len_seq (by rfl) B.len PySem.boot_len (pa_cons (pe_ix ix_list (pv 0) pe_int (fun _ _ => rfl)) pa_nil)) (nomark _))))) (pss_cons (ps_set (i := 2) sc__law_draw.nd rfl (Or.inl rfl) (pe_ix ix_list (pe_ix ix_list (pv 0) pe_int (fun _ _ => rfl)) (pe_ix ix_list (pv 0) pe_int (fun _ _ => rfl)) (fun _ _ => rfl))) (pss_cons (ps_asg (pe_op op_add (pe_ix ix_list (pv 0) pe_int (fun _ _ => rfl)) pe_int) (pg_sub (pv 0) pe_int set_list)) (pss_one (ps_if (pt_cmpR op_ge (pv 2) (pe_op op_pow pe_int pe_int) (nomark _)) (pss_one (ps_asg (pv 2) (pg_sub (pv 0) pe_int set_list))) (pss_one (ps_asg (pe_op op_mod (pe_op op_add (pe_ix ix_list (pv 0) pe_int (fun _ _ => rfl)) (pe_op op_mul (pe_op op_mod (pv 2) pe_int) pe_int)) pe_int) (pg_sub (pv 0) pe_int set_list))))))) pss_nil) (pss_cons (ps_if (pt_cmpR op_gt (pe_ix ix_list (pv 0) pe_int (fun _ _ => rfl)) pe_int (nomark _)) (pss_cons (ps_set (i := 3) sc__law_draw.nd rfl (Or.inl rfl) (pe_op op_mod (pe_ix ix_list (pv 0) pe_int (fun _ _ => rfl)) (pv 1))) (pss_cons (ps_asg (pe_op op_fdivA (pe_ix ix_list (pv 0) pe_int (fun _ _ => rfl)) (pv 1)) (pg_sub (pv 0) pe_int set_list)) (pss_one (ps_ret (pv 3))))) pss_nil) (pss_cons (ps_asg (pe_op op_add (pe_ix ix_list (pv 0) pe_int (fun _ _ => rfl)) pe_int) (pg_sub (pv 0) pe_int set_list)) (pss_cons (ps_set (i := 4) sc__law_draw.nd rfl (Or.inl rfl) (pe_op op_mod (pe_op op_add (pe_ix ix_list (pv 0) pe_int (fun _ _ => rfl)) (pe_op op_mul (pe_ix ix_list (pv 0) pe_int (fun _ _ => rfl)) pe_int)) pe_int)) (pss_cons (ps_asg (pe_op op_mod (pe_op op_add (pe_op op_add (pe_op op_mul (pe_op op_mod (pe_op op_mul (pv 4) (pv 4)) pe_int) (pe_op op_add (pe_op op_mod (pv 4) pe_int) pe_int)) (pe_op op_mul pe_int (pv 4))) pe_int) pe_int) (pg_sub (pv 0) pe_int set_list)) (pss_one (ps_ret (pe_op op_mod (pe_op op_add (pe_op op_fdiv (pe_ix ix_list (pv 0) pe_int (fun _ _ => rfl)) pe_int) (pe_op op_mul (pe_op op_mod (pe_ix ix_list (pv 0) pe_int (fun _ _ => rfl)) pe_int) pe_int)) (pv 1))))))))), ?_⟩
    refine tIfS_join (fun σ' H' => Stp box l H H' ∧ ∃ z, σ' = [some (.ref box), some (.int many), z, none, none]) ?_ (fun rest => ?_)
    · rintro σ1 H1 ⟨⟨k1, ns, i, x, s, c, b1, b2, b3, b4, b5⟩, z, rfl⟩
      have hb1 := SqL.of (K := K) b1
      refine ⟨_, rfl, box, _, _, _, rfl, rfl, hb1, a52 .., _, _, rfl, rfl, _, rfl, ite2 (fun e => ?_) (fun e => ?_)⟩
      · refine ⟨_, rfl, box, _, _, _, rfl, rfl, hb1, a52 .., _, rfl, _, _, rfl, rfl, hm, ?_⟩
        refine ⟨_, rfl, box, _, _, _, rfl, rfl, hb1, a52 .., _, rfl, _, _, rfl, rfl, ⟨by omega, hml⟩, _, rfl, box, _, _, _, rfl, rfl, b1, rfl, ?_⟩
        exact ⟨_, rfl, q _ _ (box_upd k1 b2 b3 b4 b5) (Int.emod_nonneg _ (by omega)) (Int.emod_lt_of_pos _ hm)⟩
      · refine ⟨_, rfl, box, _, _, _, rfl, rfl, hb1, a54 .., _, _, rfl, rfl, _, rfl, box, _, _, _, rfl, rfl, b1, rfl, ?_⟩
        have s2 := box_upd (i := i) (x := x) (c := c + 1) k1 b2 b3 b4 b5
        have e2 : (upd H1 box (.lst [.ref l, .int i, .int x, .int s, .int (c + 1)])) box = some (.lst [.ref l, .int i, .int x, .int s, .int (c + 1)]) := upd_same
        have e3 : (upd H1 box (.lst [.ref l, .int i, .int x, .int s, .int (c + 1)])) l = some (.lst (ns.map V.int)) := by rw [upd_ne b3]; exact b2
        have hb2 := SqL.of (K := K) e2
        refine ⟨_, rfl, box, _, _, _, rfl, rfl, hb2, a53 .., _, rfl, box, _, _, _, rfl, rfl, hb2, a54 .., _, _, rfl, rfl, .inr ⟨by decide, by decide⟩, _, _, rfl, rfl, _, _, rfl, rfl, (by decide : (0 : Int) < 2147483647), ?_⟩
        have hB0 : 0 ≤ (s + (c + 1) * 7919) % 2147483647 := Int.emod_nonneg _ (by decide)
        have hB1 : (s + (c + 1) * 7919) % 2147483647 < 2147483647 := Int.emod_lt_of_pos _ (by decide)
        revert hB0 hB1
        dsimp only
        generalize (s + (c + 1) * 7919) % 2147483647 = B
        intro hB0 hB1
        have hBB : B * B % 2147483629 < 2147483629 ∧ 0 ≤ B * B % 2147483629 := ⟨Int.emod_lt_of_pos _ (by decide), Int.emod_nonneg _ (by decide)⟩
        refine ⟨_, rfl, _, rfl, _, _, rfl, rfl, .inl ⟨by omega, by omega⟩, _, _, rfl, rfl, (by decide : (0 : Int) < 2147483629), _, rfl, _, _, rfl, rfl, (by decide : (0 : Int) < 65521), _, _, rfl, rfl, _, _, rfl, rfl, .inl ⟨by omega, by omega⟩, ?_⟩
        refine ⟨_, rfl, _, _, rfl, rfl, .inl ⟨by decide, by decide⟩, _, _, rfl, rfl, _, _, rfl, rfl, _, _, rfl, rfl, (by decide : (0 : Int) < 2147483647), ?_⟩
        refine ⟨_, rfl, box, _, _, _, rfl, rfl, e2, rfl, ?_⟩
        have hS0 : 0 ≤ (B * B % 2147483629 * (B % 65521 + 3) + 40692 * B + 1013) % 2147483647 := Int.emod_nonneg _ (by decide)
        have hS1 : (B * B % 2147483629 * (B % 65521 + 3) + 40692 * B + 1013) % 2147483647 < 2147483647 := Int.emod_lt_of_pos _ (by decide)
        revert hS0 hS1
        dsimp only
        generalize (B * B % 2147483629 * (B % 65521 + 3) + 40692 * B + 1013) % 2147483647 = S
        intro hS0 hS1
        have s3 := box_upd (i := i) (x := x) (c := c + 1) s2.keep e3 b3 hS0 hS1
        have e4 : (upd (upd H1 box (.lst [.ref l, .int i, .int x, .int s, .int (c + 1)])) box (.lst [.ref l, .int i, .int x, .int S, .int (c + 1)])) box = some (.lst [.ref l, .int i, .int x, .int S, .int (c + 1)]) := upd_same
        have hb3 := SqL.of (K := K) e4
        refine ⟨_, rfl, box, _, _, _, rfl, rfl, hb3, a53 .., _, _, rfl, rfl, ⟨by decide, by decide⟩, _, rfl, box, _, _, _, rfl, rfl, hb3, a53 .., _, _, rfl, rfl, (by decide : (0 : Int) < 8191), _, _, rfl, rfl, .inr ⟨by decide, by decide⟩, _, _, rfl, rfl, _, rfl, _, _, rfl, rfl, hm, ?_⟩
        exact q _ _ s3 (Int.emod_nonneg _ (by omega)) (Int.emod_lt_of_pos _ hm)
    · obtain ⟨ns, i, x, s, c, b1, b2, b3, b4, b5⟩ := id hbox
      have hb1 := SqL.of (K := K) b1
      have hL := SqL.of (K := K) b2
      have k1 := Keep.refl box H
      refine ⟨_, rfl, box, _, _, _, rfl, rfl, hb1, a52 .., _, _, rfl, rfl, _, rfl, ite2 (fun e => ?_) (fun e => ?_)⟩
      · refine ⟨_, rfl, box, _, _, _, rfl, rfl, hb1, a51 .., _, rfl, box, _, _, _, rfl, rfl, hb1, a50 .., l, _, rfl, .inl hL, _, _, rfl, rfl, _, rfl, ite2 (fun e => ?_) (fun e => ?_)⟩
        · have e := of_decide_eq_true e
          rw [List.length_map] at e
          have hi : i < ns.length := by omega
          have hget : (ns.map V.int)[i]? = some (.int ns[i]) := by
            rw [List.getElem?_map, List.getElem?_eq_getElem hi]
            rfl
          refine ⟨_, rfl, box, _, _, _, rfl, rfl, hb1, a50 .., _, rfl, box, _, _, _, rfl, rfl, hb1, a51 .., l, _, _, _, rfl, rfl, hL, atI_nat hget, ?_⟩
          refine ⟨_, rfl, box, _, _, _, rfl, rfl, hb1, a51 .., _, _, rfl, rfl, _, rfl, box, _, _, _, rfl, rfl, b1, rfl, ?_⟩
          have s2 := box_upd (i := i + 1) (x := x) (c := c) k1 b2 b3 b4 b5
          have e2 : (upd H box (.lst [.ref l, .int ((i + 1 : Nat) : Int), .int x, .int s, .int c])) box = some (.lst [.ref l, .int ((i + 1 : Nat) : Int), .int x, .int s, .int c]) := upd_same
          have e3 : (upd H box (.lst [.ref l, .int ((i + 1 : Nat) : Int), .int x, .int s, .int c])) l = some (.lst (ns.map V.int)) := by rw [upd_ne b3]; exact b2
          have hb2 := SqL.of (K := K) e2
          refine ⟨_, rfl, _, _, rfl, rfl, cpow (by decide) (by decide) (by decide), _, _, rfl, rfl, _, rfl, ite2 (fun e => ?_) (fun e => ?_)⟩
          · refine ⟨_, rfl, _, rfl, box, _, _, _, rfl, rfl, e2, rfl, ?_⟩
            exact rest _ _ ⟨box_upd s2.keep e3 b3 b4 b5, _, rfl⟩
          · refine ⟨_, rfl, box, _, _, _, rfl, rfl, hb2, a53 .., _, rfl, _, _, rfl, rfl, (by decide : (0 : Int) < 2147483629), _, _, rfl, rfl, .inr ⟨by decide, by decide⟩, _, _, rfl, rfl, _, _, rfl, rfl, (by decide : (0 : Int) < 2147483647), ?_⟩
            refine ⟨_, rfl, box, _, _, _, rfl, rfl, e2, rfl, ?_⟩
            exact rest _ _ ⟨box_upd s2.keep e3 b3 (Int.emod_nonneg _ (by decide)) (Int.emod_lt_of_pos _ (by decide)), _, rfl⟩
        · exact rest _ _ ⟨Stp.refl hbox, none, rfl⟩
      · exact iteF (rest _ _ ⟨Stp.refl hbox, none, rfl⟩)

/-! ## the law's helpers -/
theorem SqL.keep {K : PySem.W.Frag} {H H' : Hp} {box p : Addr} {xs : List V} (h : SqL K H p xs) (n : p ≠ box) (e : Keep box H H') : SqL K H' p xs := by
  rcases h with (h | ⟨o, h⟩) | h
  · exact .inl (.inl (e _ _ n h))
  · exact .inl (.inr ⟨o, e _ _ n h⟩)
  · exact .inr h
theorem cut_map (ns : List Int) (lo hi : Option Int) : ∃ ms : List Int, cutV (ns.map V.int) lo hi = ms.map V.int := by
  unfold cutV
  rw [← List.map_drop, ← List.map_take]
  exact ⟨_, rfl⟩
/-- _law_open: a new box -/
def spOpen (K : PySem.W.Frag) : Sp := fun vs H Q _ => ∃ (a : Addr) (ns : List Int), vs = [.ref a] ∧ SqL K H a (ns.map V.int) ∧ ∀ H' box l, Same H H' → BoxAt H' box l → Q (.ref box) H'
theorem len__law_open {K vs H Q E} (h : spOpen K vs H Q E) : vs.length = (["_law_script"] : List Str).length := by
  obtain ⟨f, w, rfl, _⟩ := h
  rfl
theorem d__law_open {P : Program} {w : World} {K : PySem.W.Frag} {mg : Str → Option Value} {base : Heap} (R : Raw K mg "_law_open" s__law_open) (B : Bn mg)  : Def P w K mg base "_law_open" 1 ["_law_script"] (spOpen K) := by
  obtain ⟨f, fd, F, m⟩ := R
  refine ⟨f, fd, F.ok sc__law_open (fun vs H Q E h => ?_) (fun cdv A outer s H vs Q E hr h => ?_), m, F.kp, F.binds (ps := ["_law_script"]) fun _ _ _ _ _ _ us hl => match us, hl with | [_], _ => rfl⟩
  · exact len__law_open h

  · obtain ⟨a, ns, rfl, hS, q⟩ := h
    refine ⟨_, (pss_cons (ps_set (i := 1) sc__law_open.nd rfl (Or.inl rfl) pe_int) (pss_cons (ps_for PassesOwn.never rfl (pi_list (pe_slice sl_list (pv 0) po_none (po_some pe_int))) (pg_name (i := 2) sc__law_open.nd rfl (Or.inl rfl)) (pss_one (ps_set (i := 1) sc__law_open.nd rfl (Or.inl rfl) (pe_op op_mod (pe_op op_add (pe_op op_add (pe_op op_mul (pv 1) pe_int) (pe_op op_mod (pv 2) pe_int)) pe_int) pe_int)))) (pss_one (ps_ret (pe_lst (pa_cons (pe_callTy call_list_of (by rfl) B.list (by decide +kernel) (pa_cons (pe_slice sl_list (pv 0) po_none (po_some pe_int)) pa_nil)) (pa_cons pe_int (pa_cons pe_int (pa_cons (pv 1) (pa_cons pe_int pa_nil)))))))))), ?_⟩
    refine ⟨_, rfl, 63, rfl, a, _, rfl, hS, fun p hp => ?_⟩
    obtain ⟨ms, hms⟩ := cut_map ns none (some 63)
    rw [hms]
    have s1 : Same H (upd H p (.lst (ms.map V.int))) := same_new hp
    refine ⟨p, rfl, ⟨_, SqL.of upd_same⟩, for_list (K := K) (a := p) (xs := ms.map V.int) (fun i σ H' => H' = upd H p (.lst (ms.map V.int)) ∧ ∃ (s : Int) (z : Option V), 0 ≤ s ∧ s < 2147483647 ∧ σ = [some (.ref a), some (.int s), z])
      ⟨rfl, 1009, none, by decide, by decide, rfl⟩ (fun i σ H' _ ⟨e, _⟩ => by rw [e]; exact SqL.of upd_same) ?_ ?_⟩
    · rintro i y σ H' hi ⟨rfl, s, z, s0, s1', rfl⟩
      obtain ⟨u, rfl⟩ : ∃ u, y = V.int u := by
        rw [List.getElem?_map] at hi
        cases e : ms[i]? with
        | none =>
          rw [e] at hi
          cases hi
        | some u =>
          rw [e] at hi
          exact ⟨u, (Option.some.inj hi).symm⟩
      refine ⟨_, rfl, _, _, rfl, rfl, .inr ⟨by decide, by decide⟩, _, rfl, _, _, rfl, rfl, (by decide : (0 : Int) < 2147483629), _, _, rfl, rfl, _, _, rfl, rfl, _, _, rfl, rfl, (by decide : (0 : Int) < 2147483647), ?_⟩
      exact ⟨rfl, _, _, Int.emod_nonneg _ (by decide), Int.emod_lt_of_pos _ (by decide), rfl⟩
    · rintro σ H' ⟨rfl, s, z, s0, s1', rfl⟩
      refine ⟨_, rfl, 63, rfl, a, _, rfl, s1.seq hS, fun p2 hp2 => ?_⟩
      rw [hms]
      refine ⟨p2, _, rfl, .inl (SqL.of upd_same), fun l hl => ?_⟩
      have s2 := s1.trans ((same_new hp2).trans (same_new (o := .lst (ms.map V.int)) hl))
      refine ⟨_, rfl, (by show 5 ≤ sizeLine; decide), fun b hb => ?_⟩
      have nlb : l ≠ b := ne_of_none upd_same hb
      refine q _ b l (s2.trans (same_new hb)) ⟨ms, 0, 0, s, 0, upd_same, ?_, nlb, s0, s1'⟩
      rw [upd_ne nlb, upd_same]
theorem at_mem {xs : List V} {r : Int} (h0 : 0 ≤ r) (h1 : r < (xs.length : Int)) : ∃ x, atI xs r = some x ∧ x ∈ xs := by
  obtain ⟨n, rfl⟩ : ∃ n : Nat, r = n := ⟨r.toNat, by omega⟩
  have hn : n < xs.length := by omega
  exact ⟨xs[n], atI_nat (List.getElem?_eq_getElem hn), List.getElem_mem hn⟩
/-- _law_any: some item of the list -/
def spAny (K : PySem.W.Frag) : Sp := fun vs H Q _ => ∃ (box l p : Addr) (xs : List V), vs = [.ref box, .ref p] ∧ BoxAt H box l ∧ SqL K H p xs ∧ p ≠ box ∧ xs ≠ [] ∧ xs.length ≤ 1000 ∧ ∀ H' x, Stp box l H H' → x ∈ xs → Q x H'
theorem len__law_any {K vs H Q E} (h : spAny K vs H Q E) : vs.length = (["_law_box", "_law_some"] : List Str).length := by
  obtain ⟨f, w, _, _, rfl, _⟩ := h
  rfl
theorem log_small {n : Int} (h0 : 0 < n) (h : n < 2 ^ 200) : n.natAbs.log2 < 9000 := by
  have : n.natAbs < 2 ^ 200 := by omega
  exact Nat.lt_of_lt_of_le (PySem.Flt.log2_lt_of (by decide) this) (by decide)
theorem d__law_any {P : Program} {w : World} {K : PySem.W.Frag} {mg : Str → Option Value} {base : Heap} (R : Raw K mg "_law_any" s__law_any) (B : Bn mg) (D__law_draw : Def P w K mg base "_law_draw" 1 ["_law_box", "_law_many"] (spDraw)) : Def P w K mg base "_law_any" 2 ["_law_box", "_law_some"] (spAny K) := by
  obtain ⟨f, fd, F, m⟩ := R
  obtain ⟨f__law_draw, fd__law_draw, G__law_draw, m__law_draw, k__law_draw, b__law_draw⟩ := D__law_draw
  refine ⟨f, fd, F.ok sc__law_any (fun vs H Q E h => ?_) (fun cdv A outer s H vs Q E hr h => ?_), m, F.kp, F.binds (ps := ["_law_box", "_law_some"]) fun _ _ _ _ _ _ us hl => match us, hl with | [_, _], _ => rfl⟩
  · exact len__law_any h

  · obtain ⟨box, l, p, xs, rfl, hb, hS, hn, hne, hl, q⟩ := h
    refine ⟨_, (pss_one (ps_ret (pe_ix ix_list (pv 1) (pe_call G__law_draw (hr.mono (by omega)) (by rfl) m__law_draw k__law_draw b__law_draw .nil pass0 (pa_cons (pv 0) (pa_cons (pe_callB call_len_seq (by rfl) B.len PySem.boot_len (pa_cons (pv 1) pa_nil)) pa_nil))) (fun _ _ => rfl)))), ?_⟩
    have hpos : 0 < xs.length := List.length_pos_iff.mpr hne
    refine ⟨_, rfl, _, rfl, _, rfl, p, _, rfl, .inl hS, box, l, _, rfl, hb, by omega, log_small (by omega) (by omega), fun H' r st h0 h1 => ?_⟩
    obtain ⟨x, hx, hm⟩ := at_mem h0 h1
    exact ⟨p, _, _, _, rfl, rfl, SqL.keep hS hn st.keep, hx, q _ _ st hm⟩
def primesI : List Int := [2, 3, 5, 7, 11, 13, 17, 19, 23, 29, 31, 37, 41, 43, 47, 53, 59, 61, 67, 71, 73, 79, 83, 89, 97]
def spPrimes : Sp := fun vs H Q _ => vs = [] ∧ ∀ p, H p = none → Q (.ref p) (upd H p (.lst (primesI.map V.int)))
theorem len__law_primes {vs H Q E} (h : spPrimes vs H Q E) : vs.length = ([] : List Str).length := by
  obtain ⟨rfl, _⟩ := h
  rfl
theorem d__law_primes {P : Program} {w : World} {K : PySem.W.Frag} {mg : Str → Option Value} {base : Heap} (R : Raw K mg "_law_primes" s__law_primes)  : Def P w K mg base "_law_primes" 1 [] (spPrimes) := by
  obtain ⟨f, fd, F, m⟩ := R
  refine ⟨f, fd, F.ok sc__law_primes (fun vs H Q E h => ?_) (fun cdv A outer s H vs Q E hr h => ?_), m, F.kp, F.binds (ps := []) fun _ _ _ _ _ _ us hl => match us, hl with | [], _ => rfl⟩
  · exact len__law_primes h

  · obtain ⟨rfl, q⟩ := h
    refine ⟨_, (pss_one (ps_ret (pe_lst (pa_cons pe_int (pa_cons pe_int (pa_cons pe_int (pa_cons pe_int (pa_cons pe_int (pa_cons pe_int (pa_cons pe_int (pa_cons pe_int (pa_cons pe_int (pa_cons pe_int (pa_cons pe_int (pa_cons pe_int (pa_cons pe_int (pa_cons pe_int (pa_cons pe_int (pa_cons pe_int (pa_cons pe_int (pa_cons pe_int (pa_cons pe_int (pa_cons pe_int (pa_cons pe_int (pa_cons pe_int (pa_cons pe_int (pa_cons pe_int (pa_cons pe_int pa_nil)))))))))))))))))))))))))))), ?_⟩
    exact ⟨(by show 25 ≤ sizeLine; decide), q⟩
theorem primesI_isF {f : Int} (h : V.int f ∈ primesI.map V.int) : IsF f := by
  obtain ⟨g, hg, e⟩ := List.mem_map.mp h
  have e := V.int.inj e
  subst e
  have key : ∀ x ∈ primesI, x.toNat ∈ primesN ∧ x = (x.toNat : Int) := by decide +kernel
  exact .inr ⟨_, (key _ hg).1, (key _ hg).2⟩
def spField : Sp := fun vs H Q _ => ∃ (box l : Addr), vs = [.ref box] ∧ BoxAt H box l ∧ ∀ H' f, Stp box l H H' → IsF f → Q (.int f) H'
theorem len__law_field {vs H Q E} (h : spField vs H Q E) : vs.length = (["_law_box"] : List Str).length := by
  obtain ⟨f, w, rfl, _⟩ := h
  rfl
theorem isF_prime {p : Nat} (h : p ∈ primesN) : IsF p := .inr ⟨p, h, rfl⟩
theorem d__law_field {P : Program} {w : World} {K : PySem.W.Frag} {mg : Str → Option Value} {base : Heap} (R : Raw K mg "_law_field" s__law_field) (D__law_draw : Def P w K mg base "_law_draw" 1 ["_law_box", "_law_many"] (spDraw)) (D__law_any : Def P w K mg base "_law_any" 2 ["_law_box", "_law_some"] (spAny K)) (D__law_primes : Def P w K mg base "_law_primes" 1 [] (spPrimes)) : Def P w K mg base "_law_field" 3 ["_law_box"] (spField) := by
  obtain ⟨f, fd, F, m⟩ := R
  obtain ⟨f__law_draw, fd__law_draw, G__law_draw, m__law_draw, k__law_draw, b__law_draw⟩ := D__law_draw
  obtain ⟨f__law_any, fd__law_any, G__law_any, m__law_any, k__law_any, b__law_any⟩ := D__law_any
  obtain ⟨f__law_primes, fd__law_primes, G__law_primes, m__law_primes, k__law_primes, b__law_primes⟩ := D__law_primes
  refine ⟨f, fd, F.ok sc__law_field (fun vs H Q E h => ?_) (fun cdv A outer s H vs Q E hr h => ?_), m, F.kp, F.binds (ps := ["_law_box"]) fun _ _ _ _ _ _ us hl => match us, hl with | [_], _ => rfl⟩
  · exact len__law_field h

  · obtain ⟨box, l, rfl, hb, q⟩ := h
    refine ⟨_, (pss_one (ps_ret (pe_ix ix_list (pe_lst (pa_cons pe_int (pa_cons pe_int (pa_cons pe_int (pa_cons pe_int (pa_cons pe_int (pa_cons (pe_call G__law_any (hr.mono (by omega)) (by rfl) m__law_any k__law_any b__law_any .nil pass0 (pa_cons (pv 0) (pa_cons (pe_call0 G__law_primes (hr.mono (by omega)) (by rfl) m__law_primes k__law_primes b__law_primes .nil pass0) pa_nil))) pa_nil))))))) (pe_call G__law_draw (hr.mono (by omega)) (by rfl) m__law_draw k__law_draw b__law_draw .nil pass0 (pa_cons (pv 0) (pa_cons pe_int pa_nil))) (fun _ _ => rfl)))), ?_⟩
    refine ⟨_, rfl, rfl, fun p hp => ?_⟩
    have s1 : Same H (upd H p (.lst (primesI.map V.int))) := same_new hp
    refine ⟨box, l, p, _, rfl, hb.same s1, SqL.of upd_same, hb.ne hp, by decide, by decide, fun H2 x st hx => ?_⟩
    refine ⟨(by show 6 ≤ sizeLine; decide), fun z hz => ?_⟩
    have s3 : Same H2 (upd H2 z (.lst [.int 0, .int 0, .int 2, .int 3, .int 5, x])) := same_new hz
    refine ⟨_, rfl, box, l, _, rfl, st.box.same s3, by decide, by decide +kernel, fun H4 r st4 h0 h1 => ?_⟩
    have hS : SqL K H4 z [.int 0, .int 0, .int 2, .int 3, .int 5, x] := SqL.keep (SqL.of upd_same) (st.box.ne hz) st4.keep
    have stt : Stp box l H H4 := ⟨((Keep.of s1).trans st.keep).trans ((Keep.of s3).trans st4.keep), st4.box⟩
    obtain ⟨f, rfl, hf⟩ : ∃ f, x = V.int f ∧ IsF f := by
      obtain ⟨g, hg, e⟩ := List.mem_map.mp hx
      subst e
      exact ⟨g, rfl, primesI_isF hx⟩
    have hr : r = 0 ∨ r = 1 ∨ r = 2 ∨ r = 3 ∨ r = 4 ∨ r = 5 := by omega
    rcases hr with rfl | rfl | rfl | rfl | rfl | rfl
    · exact ⟨z, _, _, _, rfl, rfl, hS, rfl, q _ _ stt (.inl rfl)⟩
    · exact ⟨z, _, _, _, rfl, rfl, hS, rfl, q _ _ stt (.inl rfl)⟩
    · exact ⟨z, _, _, _, rfl, rfl, hS, rfl, q _ _ stt (isF_prime (p := 2) (by decide))⟩
    · exact ⟨z, _, _, _, rfl, rfl, hS, rfl, q _ _ stt (isF_prime (p := 3) (by decide))⟩
    · exact ⟨z, _, _, _, rfl, rfl, hS, rfl, q _ _ stt (isF_prime (p := 5) (by decide))⟩
    · exact ⟨z, _, _, _, rfl, rfl, hS, rfl, q _ _ stt hf⟩
def spGcd : Sp := fun vs H Q _ => ∃ a b : Int, vs = [.int a, .int b] ∧ Q (.int ((Nat.gcd a.natAbs b.natAbs : Nat) : Int)) H
theorem len__law_gcd {vs H Q E} (h : spGcd vs H Q E) : vs.length = (["_law_one", "_law_other"] : List Str).length := by
  obtain ⟨f, w, rfl, _⟩ := h
  rfl
theorem abs_if (a : Int) : (if a < 0 then -a else a) = (a.natAbs : Int) := by
  split <;> omega
def gcdMu (σ : L2.St) : Nat := match σ with
  | [_, some (.int y)] => y.natAbs
  | _ => 0
theorem test_mono {r : R2} (hr : ∀ x y H Q Q', (∀ z H1, Q z H1 → Q' z H1) → r x y H Q → r x y H Q') (i : Nat) (c : V) : ∀ (σ : L2.St) (H : Hp) (Q Q' : Bool → Hp → Prop), (∀ b H1, Q b H1 → Q' b H1) → tTest (tOp r (tVar i) (tC c)) σ H Q → tTest (tOp r (tVar i) (tC c)) σ H Q' := by
  rintro σ H Q Q' h ⟨v, h1, h2⟩
  exact ⟨v, h1, hr _ _ _ _ _ (fun z H1 ⟨k, e, q⟩ => ⟨k, e, h _ _ q⟩) h2⟩
theorem rI0_mono {g : Int → Int → V} : ∀ x y H (Q Q' : VK), (∀ z H1, Q z H1 → Q' z H1) → rI0 g x y H Q → rI0 g x y H Q' := by
  rintro x y H Q Q' h ⟨i, j, e1, e2, q⟩
  exact ⟨i, j, e1, e2, h _ _ q⟩
theorem d__law_gcd {P : Program} {w : World} {K : PySem.W.Frag} {mg : Str → Option Value} {base : Heap} (R : Raw K mg "_law_gcd" s__law_gcd) (B : Bn mg)  : Def P w K mg base "_law_gcd" 1 ["_law_one", "_law_other"] (spGcd) := by
  obtain ⟨f, fd, F, m⟩ := R
  refine ⟨f, fd, F.ok sc__law_gcd (fun vs H Q E h => ?_) (fun cdv A outer s H vs Q E hr h => ?_), m, F.kp, F.binds (ps := ["_law_one", "_law_other"]) fun _ _ _ _ _ _ us hl => match us, hl with | [_, _], _ => rfl⟩
  · exact len__law_gcd h

  · obtain ⟨a, b, rfl, q⟩ := h
    refine ⟨_, (pss_cons (ps_par (i := 0) (j := 1) (by rfl) sc__law_gcd.nd rfl rfl (by decide) rfl rfl (pa_cons (pe_callB call_abs (by rfl) B.abs (by decide +kernel) (pa_cons (pv 0) pa_nil)) (pa_cons (pe_callB call_abs (by rfl) B.abs (by decide +kernel) (pa_cons (pv 1) pa_nil)) pa_nil)) (by rfl)) (pss_cons (ps_while PassesOwn.never (pt_cmpR op_gt (pv 1) pe_int (nomark _)) (pss_one (ps_par (i := 0) (j := 1) (by rfl) sc__law_gcd.nd rfl rfl (by decide) rfl rfl (pa_cons (pv 1) (pa_cons (pe_op op_mod (pv 0) (pv 1)) pa_nil)) (by rfl)))) (pss_one (ps_ret (pv 0))))), ?_⟩
    refine ⟨_, rfl, _, rfl, _, rfl, _, rfl, _, _, rfl, ?_⟩
    refine while_by (fun σ H' => H' = H ∧ ∃ x y : Nat, σ = [some (.int x), some (.int y)] ∧ Nat.gcd x y = Nat.gcd a.natAbs b.natAbs) (fun σ _ => gcdMu σ) ⟨rfl, a.natAbs, b.natAbs, ?_, rfl⟩ ?_ (test_mono rI0_mono 1 _)
    · rw [abs_if, abs_if]
      rfl
    · rintro σ H' ⟨rfl, x, y, rfl, hg⟩
      refine ⟨_, rfl, _, _, rfl, rfl, _, rfl, ite2 (fun e => ?_) (fun e => ?_)⟩
      · have e := of_decide_eq_true e
        refine ⟨_, rfl, _, rfl, _, rfl, _, _, rfl, rfl, e, _, _, rfl, ?_⟩
        refine ⟨⟨rfl, y, x % y, rfl, ?_⟩, ?_⟩
        · rw [← hg, Nat.gcd_comm y, ← Nat.gcd_rec, Nat.gcd_comm]
        · show (((x : Int) % (y : Int)).natAbs) < ((y : Int)).natAbs
          rw [← Int.natCast_emod, Int.natAbs_natCast, Int.natAbs_natCast]
          exact Nat.mod_lt _ (by omega)
      · have e : ¬ (0 : Int) < (y : Int) := fun z => e (decide_eq_true z)
        have y0 : y = 0 := by omega
        subst y0
        rw [Nat.gcd_zero_right] at hg
        refine ⟨_, rfl, ?_⟩
        rw [hg]
        exact q

/-! ## the law's numbers -/
theorem at_zero {x : V} {xs : List V} : atI (x :: xs) 0 = some x := atI_nat (j := 0) rfl
def filtN (f b : Int) (n : Nat) : List Nat := (List.range n).filter fun k => decide (b * (k : Int) % f = 1)
theorem filtN_succ (f b : Int) (n : Nat) : filtN f b (n + 1) = if b * (n : Int) % f = 1 then filtN f b n ++ [n] else filtN f b n := by
  unfold filtN
  rw [List.range_succ, List.filter_append]
  by_cases h : b * (n : Int) % f = 1
  · rw [if_pos h]
    simp [h]
  · rw [if_neg h]
    simp [h]
theorem ofI_ne {f : Int} (F : Fd f) {b : Int} (h : nouB f b = false) : letI := F.fld; F.ofI b ≠ 0 := by
  intro e
  have h2 := (F.ofI0 b).mp e
  by_cases h0 : f = 0
  · subst h0
    rw [if_pos rfl] at h2
    rw [nouB0, decide_eq_true h2] at h
    cases h
  · rw [if_neg h0] at h2
    rw [nouB1 h0, decide_eq_true h2] at h
    cases h
theorem num_first {f : Int} (hf : IsF f) (h0 : f ≠ 0) {b : Int} (hb : nouB f b = false) (t : Int) : ∃ (k : Nat) (r : List Nat), filtN f b f.toNat = k :: r ∧ (k : Int) < f ∧ low f t b = (t * (k : Int) % f, 1) := by
  obtain ⟨F⟩ := fd_ex hf
  letI := F.fld
  have hx : F.ofI b ≠ 0 := ofI_ne F hb
  have h2 := hf.two h0
  have key : ∀ k : Int, b * k % f = 1 → low f t b = (t * k % f, 1) := by
    intro k hk
    have e1 : F.ofI b * F.ofI k = 1 := by
      apply F.inj
      rw [← F.ofI_mul, F.encI, if_neg h0, hk, F.one]
    have e2 : (F.ofI b)⁻¹ = F.ofI k := by
      have h3 := Lean.Grind.Field.mul_inv_cancel hx
      grind
    rw [← F.low t b hx, e2, ← F.ofI_mul, F.encI, if_neg h0]
  have ex : ∃ k : Nat, k < f.toNat ∧ b * (k : Int) % f = 1 := by
    have hn := F.num ((F.ofI b)⁻¹)
    rcases hn with ⟨e, _⟩ | ⟨_, g2, g0, g1⟩
    · exact absurd e h0
    · refine ⟨(F.enc ((F.ofI b)⁻¹)).1.toNat, by omega, ?_⟩
      have e3 : (((F.enc ((F.ofI b)⁻¹)).1.toNat : Nat) : Int) = (F.enc ((F.ofI b)⁻¹)).1 := Int.toNat_of_nonneg g0
      have e4 : F.ofI ((F.enc ((F.ofI b)⁻¹)).1) = (F.ofI b)⁻¹ := by
        apply F.inj
        rw [F.encI, if_neg h0, Int.emod_eq_of_lt g0 g1, ← g2]
      have e5 : F.ofI (b * (F.enc ((F.ofI b)⁻¹)).1) = 1 := by
        rw [F.ofI_mul, e4]
        exact Lean.Grind.Field.mul_inv_cancel hx
      have e6 := congrArg F.enc e5
      rw [F.encI, if_neg h0, F.one] at e6
      rw [e3]
      exact congrArg Prod.fst e6
  cases hl : filtN f b f.toNat with
  | nil =>
    obtain ⟨k, hk, hk2⟩ := ex
    have hm : k ∈ filtN f b f.toNat := by
      unfold filtN
      rw [List.mem_filter]
      exact ⟨List.mem_range.mpr hk, decide_eq_true hk2⟩
    rw [hl] at hm
    cases hm
  | cons k r =>
    have hm : k ∈ filtN f b f.toNat := by
      rw [hl]
      exact List.mem_cons_self ..
    unfold filtN at hm
    rw [List.mem_filter] at hm
    have h3 := List.mem_range.mp hm.1
    exact ⟨k, r, rfl, by omega, key _ (of_decide_eq_true hm.2)⟩
def spNum (K : PySem.W.Frag) : Sp := fun vs H Q _ => ∃ f t b : Int, vs = [.int f, .int t, .int b] ∧ IsF f ∧ nouB f b = false ∧ (f = 0 → b.natAbs < 2 ^ 9000) ∧ RetN K H Q (low f t b)
theorem len__law_num {K vs H Q E} (h : spNum K vs H Q E) : vs.length = (["_law_field_here", "_law_top", "_law_bottom"] : List Str).length := by
  obtain ⟨f, t, b, rfl, _⟩ := h
  rfl
theorem d__law_num {P : Program} {w : World} {K : PySem.W.Frag} {mg : Str → Option Value} {base : Heap} (R : Raw K mg "_law_num" s__law_num) (B : Bn mg) (D__law_gcd : Def P w K mg base "_law_gcd" 1 ["_law_one", "_law_other"] (spGcd)) : Def P w K mg base "_law_num" 2 ["_law_field_here", "_law_top", "_law_bottom"] (spNum K) := by
  obtain ⟨f, fd, F, m⟩ := R
  obtain ⟨f__law_gcd, fd__law_gcd, G__law_gcd, m__law_gcd, k__law_gcd, b__law_gcd⟩ := D__law_gcd
  refine ⟨f, fd, F.ok sc__law_num (fun vs H Q E h => ?_) (fun cdv A outer s H vs Q E hr h => ?_), m, F.kp, F.binds (ps := ["_law_field_here", "_law_top", "_law_bottom"]) fun _ _ _ _ _ _ us hl => match us, hl with | [_, _, _], _ => rfl⟩
  · exact len__law_num h

  · obtain ⟨a, t, b, rfl, hf, hn, hs, q⟩ := h
    refine ⟨_, (pss_cons (ps_if (pt_cmpR op_gt (pv 0) pe_int (nomark _)) (pss_one (ps_ret (pe_tup (pa_cons (pe_op op_mod (pe_op op_mul (pv 1) (pe_ix ix_list (pe_lc (own := [("_law_k", 3)]) (g := gName 3) rfl sc__law_num.nd (pi_range1 (by rfl) B.range (pa_cons (pv 0) pa_nil)) (blkOk_by (N := ["_law_field_here", "_law_top", "_law_bottom", "_law_k", "_law_part"]) (sc := defScope s__law_num) (by decide +kernel)) (fun _ _ _ _ _ => pg_name (i := 3) sc__law_num.nd rfl (Or.inl rfl)) (fun _ _ _ _ _ => pts_one (pt_cmpR op_eq (pe_op op_mod (pe_op op_mul (pv 2) (pv 3)) (pv 0)) pe_int (nomark _))) (fun _ _ _ _ _ => (pv 3))) pe_int (fun _ _ => rfl))) (pv 0)) (pa_cons pe_int pa_nil))))) pss_nil) (pss_cons (ps_set (i := 4) sc__law_num.nd rfl (Or.inl rfl) (pe_call G__law_gcd (hr.mono (by omega)) (by rfl) m__law_gcd k__law_gcd b__law_gcd .nil pass0 (pa_cons (pv 1) (pa_cons (pv 2) pa_nil)))) (pss_cons (ps_if (pt_cmpR op_lt (pv 2) pe_int (nomark _)) (pss_one (ps_set (i := 4) sc__law_num.nd rfl (Or.inl rfl) (pe_op op_sub pe_int (pv 4)))) pss_nil) (pss_one (ps_ret (pe_tup (pa_cons (pe_op op_fdivA (pv 1) (pv 4)) (pa_cons (pe_op op_fdivA (pv 2) (pv 4)) pa_nil)))))))), ?_⟩
    refine ⟨_, rfl, _, _, rfl, rfl, _, rfl, ite2 (fun e => ?_) (fun e => ?_)⟩
    · have e := of_decide_eq_true e
      have h0 : a ≠ 0 := by omega
      have h2 := hf.two h0
      obtain ⟨k0, r, hk, hk1, hlow⟩ := num_first hf h0 hn t
      refine ⟨_, rfl, _, rfl, a, rfl, by omega, by omega, fun D hD => ?_⟩
      refine lc_range (lo := 0) (n := a.toNat) (fun i H' => Same H H' ∧ H' D = some (.lst ((filtN a b i).map fun k : Nat => V.int (k : Int)))) ⟨same_new hD, upd_same⟩ ?_ ?_
      · rintro i H' hi ⟨s, hD'⟩
        have hsz : ((filtN a b i).map fun k : Nat => V.int (k : Int)).length < sizeLine := by
          rw [List.length_map]
          refine small1000 ?_
          unfold filtN
          have := List.length_filter_le (fun k : Nat => decide (b * (k : Int) % a = 1)) (List.range i)
          rw [List.length_range] at this
          omega
        refine ⟨rfl, _, rfl, _, rfl, _, _, rfl, rfl, .inr ⟨by omega, by omega⟩, _, rfl, _, _, rfl, rfl, (by show (0 : Int) < a; omega), rfl, _, rfl, ite2 (fun e => ?_) (fun e => ?_)⟩
        · have e := eqI e
          rw [Int.zero_add] at e
          refine ⟨_, rfl, _, hD', hsz, same_seqT_upd s hD hD', ?_⟩
          rw [upd_same, filtN_succ, if_pos e, List.map_append, Int.zero_add]
          rfl
        · have e := neI e
          rw [Int.zero_add] at e
          refine ⟨s, ?_⟩
          rw [hD', filtN_succ, if_neg e]
      · rintro H' ⟨s, hD'⟩
        rw [hk] at hD'
        refine ⟨D, _, 0, .int (k0 : Int), rfl, rfl, SqL.of hD', at_zero, t, (k0 : Int), rfl, rfl, .inr ⟨by omega, by omega⟩, _, rfl, _, _, rfl, rfl, (by show (0 : Int) < a; omega), (by show 2 ≤ sizeLine; decide), fun p hp => ?_⟩
        have q2 : RetN K H' Q (low a t b) := fun H2 v s2 hv => q H2 v (s.trans s2) hv
        exact q2.new hlow hp
    · have e : ¬ 0 < a := fun z => e (decide_eq_true z)
      have e0 : a = 0 := by
        have := hf.nn
        omega
      subst e0
      have hb : b ≠ 0 := by
        rw [nouB0] at hn
        exact of_decide_eq_false hn
      have hs := hs rfl
      have hg := gOf_ne (t := t) hb
      have hgl := gOf_le (t := t) hb
      have hq : low 0 t b = (t.fdiv (gOf t b), b.fdiv (gOf t b)) := by
        unfold low
        rw [if_neg (by simp)]
      have hd : ∀ i, CDivA i (gOf t b) := fun i => divA hg (Nat.lt_of_le_of_lt hgl hs) (by decide) (by decide)
      refine ⟨_, rfl, _, rfl, t, b, rfl, ?_⟩
      refine ⟨_, rfl, _, _, rfl, rfl, _, rfl, ite2 (fun e => ?_) (fun e => ?_)⟩
      · have e := of_decide_eq_true e
        have eg : 0 - ((Nat.gcd t.natAbs b.natAbs : Nat) : Int) = gOf t b := by
          unfold gOf
          rw [if_pos e]
          omega
        refine ⟨_, rfl, _, _, rfl, rfl, ?_⟩
        dsimp only
        rw [eg]
        refine ⟨_, rfl, _, rfl, _, _, rfl, rfl, hd _, _, rfl, _, rfl, _, _, rfl, rfl, hd _, (by show 2 ≤ sizeLine; decide), fun p hp => ?_⟩
        exact q.new hq hp
      · have e := of_decide_eq_false (eq_false_of_ne_true e)
        have eg : ((Nat.gcd t.natAbs b.natAbs : Nat) : Int) = gOf t b := by
          unfold gOf
          rw [if_neg e]
        rw [eg]
        refine ⟨_, rfl, _, rfl, _, _, rfl, rfl, hd _, _, rfl, _, rfl, _, _, rfl, rfl, hd _, (by show 2 ≤ sizeLine; decide), fun p hp => ?_⟩
        exact q.new hq hp
/-- _law_number: a small number of the field -/
def spNumber (K : PySem.W.Frag) : Sp := fun vs H Q _ => ∃ (box l : Addr) (f : Int), vs = [.ref box, .int f] ∧ BoxAt H box l ∧ IsF f ∧ ∀ H' v q, Stp box l H H' → NumV K H' v q → IsN f q → Sm 7 q → Q v H'
theorem len__law_number {K vs H Q E} (h : spNumber K vs H Q E) : vs.length = (["_law_box", "_law_field_here"] : List Str).length := by
  obtain ⟨f, w, z, rfl, _⟩ := h
  rfl
theorem NumV.box {K : PySem.W.Frag} {H H' : Hp} {box l p : Addr} {q : Pr} (h : H p = some (.tup [.int q.1, .int q.2])) (hb : BoxAt H box l) (e : Keep box H H') : NumV K H' (.ref p) q :=
  NumV.keep ⟨p, rfl, SqT.of h⟩ hb e
theorem six {r : Int} (h0 : 0 ≤ r) (h1 : r < 6) : r = 0 ∨ r = 1 ∨ r = 2 ∨ r = 3 ∨ r = 4 ∨ r = 5 := by omega
theorem isN_p {f a : Int} (h : f ≠ 0) (h0 : 0 ≤ a) (h1 : a < f) : IsN f (a, 1) := .inr ⟨h, rfl, h0, h1⟩
theorem sm_of {a b : Int} (ha : a.natAbs < 128) (hb : b.natAbs < 128) : Sm 7 (a, b) := ⟨ha, hb⟩
theorem isN_sm {f : Int} {q : Pr} (hf : IsF f) (h0 : f ≠ 0) (h : IsN f q) : Sm 7 q := by
  rcases h with ⟨h, _⟩ | ⟨_, h1, h2, h3⟩
  · exact absurd h h0
  · have := hf.two h0
    refine ⟨?_, ?_⟩
    · show _ < 128
      omega
    · show _ < 128
      omega
theorem d__law_number {P : Program} {w : World} {K : PySem.W.Frag} {mg : Str → Option Value} {base : Heap} (R : Raw K mg "_law_number" s__law_number) (D__law_draw : Def P w K mg base "_law_draw" 1 ["_law_box", "_law_many"] (spDraw)) (D__law_num : Def P w K mg base "_law_num" 2 ["_law_field_here", "_law_top", "_law_bottom"] (spNum K)) : Def P w K mg base "_law_number" 3 ["_law_box", "_law_field_here"] (spNumber K) := by
  obtain ⟨f, fd, F, m⟩ := R
  obtain ⟨f__law_draw, fd__law_draw, G__law_draw, m__law_draw, k__law_draw, b__law_draw⟩ := D__law_draw
  obtain ⟨f__law_num, fd__law_num, G__law_num, m__law_num, k__law_num, b__law_num⟩ := D__law_num
  refine ⟨f, fd, F.ok sc__law_number (fun vs H Q E h => ?_) (fun cdv A outer s H vs Q E hr h => ?_), m, F.kp, F.binds (ps := ["_law_box", "_law_field_here"]) fun _ _ _ _ _ _ us hl => match us, hl with | [_, _], _ => rfl⟩
  · exact len__law_number h

  · obtain ⟨box, l, a, rfl, hb, hf, q⟩ := h
    refine ⟨_, (pss_cons (ps_set (i := 2) sc__law_number.nd rfl (Or.inl rfl) (pe_call G__law_draw (hr.mono (by omega)) (by rfl) m__law_draw k__law_draw b__law_draw .nil pass0 (pa_cons (pv 0) (pa_cons pe_int pa_nil)))) (pss_cons (ps_if (pt_cmpR op_gt (pv 1) pe_int (nomark _)) (pss_one (ps_ret (pe_ix ix_list (pe_lst (pa_cons (pe_tup (pa_cons pe_int (pa_cons pe_int pa_nil))) (pa_cons (pe_tup (pa_cons pe_int (pa_cons pe_int pa_nil))) (pa_cons (pe_tup (pa_cons (pe_op op_sub (pv 1) pe_int) (pa_cons pe_int pa_nil))) (pa_cons (pe_tup (pa_cons (pe_call G__law_draw (hr.mono (by omega)) (by rfl) m__law_draw k__law_draw b__law_draw .nil pass0 (pa_cons (pv 0) (pa_cons (pv 1) pa_nil))) (pa_cons pe_int pa_nil))) (pa_cons (pe_tup (pa_cons pe_int (pa_cons pe_int pa_nil))) (pa_cons (pe_tup (pa_cons pe_int (pa_cons pe_int pa_nil))) pa_nil))))))) (pv 2) (fun _ _ => rfl)))) pss_nil) (pss_cons (ps_set (i := 3) sc__law_number.nd rfl (Or.inl rfl) (pe_ix ix_list (pe_lst (pa_cons pe_int (pa_cons pe_int (pa_cons (pe_un un_neg pe_int) (pa_cons (pe_op op_sub (pe_call G__law_draw (hr.mono (by omega)) (by rfl) m__law_draw k__law_draw b__law_draw .nil pass0 (pa_cons (pv 0) (pa_cons pe_int pa_nil))) pe_int) (pa_cons pe_int (pa_cons (pe_op op_sub (pe_call G__law_draw (hr.mono (by omega)) (by rfl) m__law_draw k__law_draw b__law_draw .nil pass0 (pa_cons (pv 0) (pa_cons pe_int pa_nil))) pe_int) pa_nil))))))) (pv 2) (fun _ _ => rfl))) (pss_cons (ps_set (i := 4) sc__law_number.nd rfl (Or.inl rfl) (pe_ix ix_list (pe_lst (pa_cons pe_int (pa_cons pe_int (pa_cons pe_int (pa_cons (pe_op op_add pe_int (pe_call G__law_draw (hr.mono (by omega)) (by rfl) m__law_draw k__law_draw b__law_draw .nil pass0 (pa_cons (pv 0) (pa_cons pe_int pa_nil)))) (pa_cons pe_int (pa_cons (pe_op op_add pe_int (pe_call G__law_draw (hr.mono (by omega)) (by rfl) m__law_draw k__law_draw b__law_draw .nil pass0 (pa_cons (pv 0) (pa_cons pe_int pa_nil)))) pa_nil))))))) (pv 2) (fun _ _ => rfl))) (pss_one (ps_ret (pe_call G__law_num (hr.mono (by omega)) (by rfl) m__law_num k__law_num b__law_num .nil pass0 (pa_cons pe_int (pa_cons (pv 3) (pa_cons (pv 4) pa_nil)))))))))), ?_⟩
    refine ⟨_, rfl, box, l, _, rfl, hb, by decide, by decide +kernel, fun H1 r st1 r0 r1 => ?_⟩
    refine ⟨_, rfl, _, _, rfl, rfl, _, rfl, ite2 (fun e => ?_) (fun e => ?_)⟩
    · have e := of_decide_eq_true e
      have h0 : a ≠ 0 := by omega
      have h2 := hf.two h0
      -- the six tuples
      refine ⟨(by show 2 ≤ sizeLine; decide), fun p0 n0 => ?_⟩
      refine ⟨(by show 2 ≤ sizeLine; decide), fun p1 n1 => ?_⟩
      refine ⟨_, rfl, _, _, rfl, rfl, (by show 2 ≤ sizeLine; decide), fun p2 n2 => ?_⟩
      have s0 := same_new (o := .tup [.int 0, .int 1]) n0
      have s1 := same_new (o := .tup [.int 1, .int 1]) n1
      have s2 := same_new (o := .tup [.int (a - 1), .int 1]) n2
      have st2 := ((st1.same s0).same s1).same s2
      refine ⟨_, rfl, _, rfl, box, l, _, rfl, st2.box, by omega, log_small (by omega) (by omega), fun H3 d st3 d0 d1 => ?_⟩
      refine ⟨(by show 2 ≤ sizeLine; decide), fun p3 n3 => ?_⟩
      refine ⟨(by show 2 ≤ sizeLine; decide), fun p4 n4 => ?_⟩
      refine ⟨(by show 2 ≤ sizeLine; decide), fun p5 n5 => ?_⟩
      refine ⟨(by show 6 ≤ sizeLine; decide), fun z nz => ?_⟩
      have s3 := same_new (o := .tup [.int d, .int 1]) n3
      have s4 := same_new (o := .tup [.int 0, .int 1]) n4
      have s5 := same_new (o := .tup [.int 1, .int 1]) n5
      have sz := same_new (o := .lst [.ref p0, .ref p1, .ref p2, .ref p3, .ref p4, .ref p5]) nz
      have stt := ((((st2.trans st3).same s3).same s4).same s5).same sz
      have k3 := st3.keep
      have e0 : NumV K H3 (.ref p0) (0, 1) := NumV.box (s2 _ _ (s1 _ _ upd_same)) st2.box k3
      have e1 : NumV K H3 (.ref p1) (1, 1) := NumV.box (s2 _ _ upd_same) st2.box k3
      have e2 : NumV K H3 (.ref p2) (a - 1, 1) := NumV.box (q := (a - 1, 1)) upd_same st2.box k3
      have fin : ∀ {v : V} {x y : Int}, NumV K _ v (x, y) → IsN a (x, y) → Q v _ := fun hv hN => q _ _ _ stt hv hN (isN_sm hf h0 hN)
      rcases six r0 r1 with rfl | rfl | rfl | rfl | rfl | rfl
      · exact ⟨_, rfl, z, _, _, _, rfl, rfl, SqL.of upd_same, rfl, fin (((e0.same s3).same s4 |>.same s5).same sz) (isN_p h0 (by omega) (by omega))⟩
      · exact ⟨_, rfl, z, _, _, _, rfl, rfl, SqL.of upd_same, rfl, fin (((e1.same s3).same s4 |>.same s5).same sz) (isN_p h0 (by omega) (by omega))⟩
      · exact ⟨_, rfl, z, _, _, _, rfl, rfl, SqL.of upd_same, rfl, fin (((e2.same s3).same s4 |>.same s5).same sz) (isN_p h0 (by omega) (by omega))⟩
      · exact ⟨_, rfl, z, _, _, _, rfl, rfl, SqL.of upd_same, rfl, fin ((((NumV.new d 1).same s4).same s5).same sz) (isN_p h0 d0 d1)⟩
      · exact ⟨_, rfl, z, _, _, _, rfl, rfl, SqL.of upd_same, rfl, fin (((NumV.new 0 1).same s5).same sz) (isN_p h0 (by omega) (by omega))⟩
      · exact ⟨_, rfl, z, _, _, _, rfl, rfl, SqL.of upd_same, rfl, fin ((NumV.new 1 1).same sz) (isN_p h0 (by omega) (by omega))⟩
    · have e : ¬ 0 < a := fun z => e (decide_eq_true z)
      have e0 : a = 0 := by
        have := hf.nn
        omega
      subst e0
      -- top
      refine ⟨_, rfl, _, rfl, box, l, _, rfl, st1.box, by decide, by decide +kernel, fun H2 u st2 u0 u1 => ?_⟩
      refine ⟨_, _, rfl, rfl, _, rfl, box, l, _, rfl, st2.box, by decide, by decide +kernel, fun H3 w st3 w0 w1 => ?_⟩
      refine ⟨_, _, rfl, rfl, (by show 6 ≤ sizeLine; decide), fun z nz => ?_⟩
      have st3' := ((st1.trans st2).trans st3).same (same_new (o := .lst [.int 0, .int 1, .int (-1), .int (u - 3), .int 0, .int (w - 99)]) nz)
      have hT : ∃ t : Int, atI [V.int 0, .int 1, .int (-1), .int (u - 3), .int 0, .int (w - 99)] r = some (.int t) ∧ t.natAbs < 128 := by
        rcases six r0 r1 with rfl | rfl | rfl | rfl | rfl | rfl
        · exact ⟨_, rfl, by decide⟩
        · exact ⟨_, rfl, by decide⟩
        · exact ⟨_, rfl, by decide⟩
        · exact ⟨_, rfl, by omega⟩
        · exact ⟨_, rfl, by decide⟩
        · exact ⟨_, rfl, by omega⟩
      obtain ⟨t, ht, htb⟩ := hT
      refine ⟨_, rfl, z, _, _, _, rfl, rfl, SqL.of upd_same, ht, ?_⟩
      -- bottom
      refine ⟨_, rfl, box, l, _, rfl, st3'.box, by decide, by decide +kernel, fun H4 u' st4 u0' u1' => ?_⟩
      refine ⟨_, _, rfl, rfl, _, rfl, box, l, _, rfl, st4.box, by decide, by decide +kernel, fun H5 w' st5 w0' w1' => ?_⟩
      refine ⟨_, _, rfl, rfl, (by show 6 ≤ sizeLine; decide), fun z' nz' => ?_⟩
      have st5' := ((st3'.trans st4).trans st5).same (same_new (o := .lst [.int 1, .int 1, .int 1, .int (1 + u'), .int 1, .int (1 + w')]) nz')
      have hB : ∃ b : Int, atI [V.int 1, .int 1, .int 1, .int (1 + u'), .int 1, .int (1 + w')] r = some (.int b) ∧ 0 < b ∧ b.natAbs < 128 := by
        rcases six r0 r1 with rfl | rfl | rfl | rfl | rfl | rfl
        · exact ⟨_, rfl, by decide, by decide⟩
        · exact ⟨_, rfl, by decide, by decide⟩
        · exact ⟨_, rfl, by decide, by decide⟩
        · exact ⟨_, rfl, by omega, by omega⟩
        · exact ⟨_, rfl, by decide, by decide⟩
        · exact ⟨_, rfl, by omega, by omega⟩
      obtain ⟨b, hbt, hb0, hbb⟩ := hB
      refine ⟨_, rfl, z', _, _, _, rfl, rfl, SqL.of upd_same, hbt, ?_⟩
      have hbn : b ≠ 0 := by omega
      have hle := low0_le (t := t) hbn
      refine ⟨_, rfl, _, rfl, 0, t, b, rfl, hf, by rw [nouB0]; exact decide_eq_false hbn, fun _ => Nat.lt_trans hbb (Nat.pow_lt_pow_right (a := 2) (m := 7) (by decide) (by decide)), fun H' v s hv => ?_⟩
      exact q _ _ _ (st5'.same s) hv (isN_low0 hbn) ⟨Nat.lt_of_le_of_lt hle.1 htb, Nat.lt_of_le_of_lt hle.2 hbb⟩

/-! ## displays of pairs -/
def GivesI (te : TE) (σ : L2.St) (i : Int) : Prop := ∀ (H : Hp) (R : VK), R (.int i) H → te σ H R
def GivesN (K : PySem.W.Frag) (te : TE) (σ : L2.St) (q : Pr) : Prop := ∀ (H : Hp) (R : VK), (∀ v H', Same H H' → NumV K H' v q → R v H') → te σ H R
def GivesNs (K : PySem.W.Frag) (ta : TA) (σ : L2.St) (qs : List Pr) : Prop := ∀ (H : Hp) (R : List V → Hp → Prop), (∀ vs H', Same H H' → NumsV K H' vs qs → R vs H') → ta σ H R
section
variable {K : PySem.W.Frag} {σ : L2.St} {ta tb : TE} {tr : TA} {a b : Int} {q : Pr} {qs : List Pr}
theorem gI_c : GivesI (tC (.int a)) σ a := fun _ _ r => r
theorem gI_v {i : Nat} (h : σ[i]? = some (some (.int a))) : GivesI (tVar i) σ a := fun _ _ r => ⟨_, h, r⟩
theorem gI_neg (h : GivesI ta σ a) : GivesI (tUn (rU fun i => .int (-i)) ta) σ (-a) := fun H R r => h H _ ⟨a, rfl, r⟩
theorem gI_pow (ha : GivesI ta σ a) (hb : GivesI tb σ b) (h : CPow a b) : GivesI (tOp (rI CPow fun i j => .int (i ^ j.toNat)) ta tb) σ (a ^ b.toNat) := fun H R r => ha H _ (hb H _ ⟨a, b, rfl, rfl, h, r⟩)
theorem gN_tup (ha : GivesI ta σ a) (hb : GivesI tb σ b) : GivesN K (tTup (tCons ta (tCons tb tNil))) σ (a, b) := fun H R r =>
  ha H _ (hb H _ ⟨by show 2 ≤ sizeLine; decide, fun p hp => r _ _ (same_new hp) (NumV.new a b)⟩)
theorem gNs_nil : GivesNs K tNil σ [] := fun H R r => r [] H (Same.refl H) .nil
theorem gNs_cons (h : GivesN K ta σ q) (t : GivesNs K tr σ qs) : GivesNs K (tCons ta tr) σ (q :: qs) := fun H R r =>
  h H _ fun v H1 s1 n1 => t H1 _ fun vs H2 s2 n2 => r (v :: vs) H2 (s1.trans s2) (.cons (n1.same s2) n2)
theorem lst_gives {H : Hp} {R : VK} (h : GivesNs K tr σ qs) (hl : qs.length ≤ sizeLine) (k : ∀ vs H1 p, Same H H1 → NumsV K H1 vs qs → H1 p = none → R (.ref p) (upd H1 p (.lst vs))) : tLst tr σ H R :=
  h H _ fun vs H1 s1 n1 => ⟨by rw [Paired.length n1]; exact hl, fun p hp => k vs H1 p s1 n1 hp⟩
theorem asg_lst {H : Hp} {g : TG} {D : Ends} (h : GivesNs K tr σ qs) (hl : qs.length ≤ sizeLine) (k : ∀ vs H1 p, Same H H1 → NumsV K H1 vs qs → H1 p = none → g (.ref p) σ (upd H1 p (.lst vs)) D.nx) : tAsg (tLst tr) g D σ H := lst_gives h hl k
end
theorem NumsV.mem {K : PySem.W.Frag} {H : Hp} {v : V} : ∀ {vs : List V} {qs : List Pr}, NumsV K H vs qs → v ∈ vs → ∃ q, q ∈ qs ∧ NumV K H v q
  | _, _, .nil, h => by cases h
  | _, _, .cons r t, h => by
    rcases List.mem_cons.mp h with rfl | h
    · exact ⟨_, List.mem_cons_self .., r⟩
    · obtain ⟨q, h1, h2⟩ := NumsV.mem t h
      exact ⟨q, List.mem_cons_of_mem _ h1, h2⟩
theorem NumsV.app {K : PySem.W.Frag} {H : Hp} : ∀ {vs ws : List V} {qs rs : List Pr}, NumsV K H vs qs → NumsV K H ws rs → NumsV K H (vs ++ ws) (qs ++ rs)
  | _, _, _, _, .nil, h => h
  | _, _, _, _, .cons r t, h => .cons r (NumsV.app t h)
theorem NumsV.len {K : PySem.W.Frag} {H : Hp} {vs : List V} {qs : List Pr} (h : NumsV K H vs qs) : vs.length = qs.length := Paired.length h
/-! ## tables of code objects stand -/
theorem TabS.keep {H H' : Hp} {box l P : Addr} {q : Str} (t : LamX.TabS H P q) (hb : BoxAt H box l) (k : Keep box H H') : LamX.TabS H' P q := by
  obtain ⟨ps, h1, h2, h3⟩ := t
  obtain ⟨_, _, _, _, _, b1, _⟩ := hb
  refine ⟨ps, k _ _ (fun e => ?_) h1, h2, fun pos cv hc => ?_⟩
  · rw [e, b1] at h1
    cases h1
  · obtain ⟨c, e1, e2⟩ := h3 pos cv hc
    refine ⟨c, e1, k _ _ (fun e => ?_) e2⟩
    rw [e, b1] at e2
    have z := Option.some.inj e2
    unfold LamX.CodeO at z
    cases z
theorem Tabs.keep {H H' : Hp} {box l : Addr} {T : List (Addr × Str)} (t : LamX.Tabs T H) (hb : BoxAt H box l) (k : Keep box H H') : LamX.Tabs T H' := fun p hp => TabS.keep (t p hp) hb k
theorem NumV.extN {K : PySem.W.Frag} {H H' : Hp} {v : V} {q : Pr} (h : NumV K H v q) (e : LamX.ExtN H H') : NumV K H' v q := by
  obtain ⟨p, h1, h2⟩ := h
  refine ⟨p, h1, ?_⟩
  rcases h2 with (h | ⟨o, h⟩) | h
  · exact .inl (.inl (e _ _ h fun _ z => by cases z))
  · exact .inl (.inr ⟨o, e _ _ h fun _ z => by cases z⟩)
  · exact .inr h
theorem BoxAt.extN {H H' : Hp} {box l : Addr} (h : BoxAt H box l) (e : LamX.ExtN H H') : BoxAt H' box l := by
  obtain ⟨ns, i, x, s, c, h1, h2, h3⟩ := h
  exact ⟨ns, i, x, s, c, e _ _ h1 (fun _ z => by cases z), e _ _ h2 (fun _ z => by cases z), h3⟩

/-! ## k02's own helpers -/
def spLIsN (K : PySem.W.Frag) : Sp := fun vs H Q _ => ∃ (f : Int) (x : V) (p : Pr), vs = [.int f, x] ∧ 0 ≤ f ∧ NumV K H x p ∧ Q (.bl (isNB f p)) H
theorem len__law_is_number {K vs H Q E} (h : spLIsN K vs H Q E) : vs.length = (["_law_field_here", "_law_number_here"] : List Str).length := by
  obtain ⟨f, x, p, rfl, _⟩ := h
  rfl
theorem d__law_is_number {P : Program} {w : World} {K : PySem.W.Frag} {mg : Str → Option Value} {base : Heap} (R : Raw K mg "_law_is_number" s__law_is_number) (D__law_gcd : Def P w K mg base "_law_gcd" 1 ["_law_one", "_law_other"] (spGcd)) : Def P w K mg base "_law_is_number" 2 ["_law_field_here", "_law_number_here"] (spLIsN K) := by
  obtain ⟨f, fd, F, m⟩ := R
  obtain ⟨f__law_gcd, fd__law_gcd, G__law_gcd, m__law_gcd, k__law_gcd, b__law_gcd⟩ := D__law_gcd
  refine ⟨f, fd, F.ok sc__law_is_number (fun vs H Q E h => ?_) (fun cdv A outer s H vs Q E hr h => ?_), m, F.kp, F.binds (ps := ["_law_field_here", "_law_number_here"]) fun _ _ _ _ _ _ us hl => match us, hl with | [_, _], _ => rfl⟩
  · exact len__law_is_number h

  · obtain ⟨a, x, p, rfl, h0, ⟨px, rfl, hx⟩, q⟩ := h
    refine ⟨_, (pss_cons (ps_if (pt_cmpR op_gt (pv 0) pe_int (nomark _)) (pss_one (ps_ret (pe_and (pe_cmpR op_eq (pe_ix ix_tup (pv 1) pe_int (fun _ _ => rfl)) pe_int (nomark _)) (pe_one (pe_chain op_le op_lt pe_int (pe_ix ix_tup (pv 1) pe_int (fun _ _ => rfl)) (pv 0)))))) pss_nil) (pss_one (ps_ret (pe_and (pe_cmpR op_gt (pe_ix ix_tup (pv 1) pe_int (fun _ _ => rfl)) pe_int (nomark _)) (pe_one (pe_cmpR op_eq (pe_call G__law_gcd (hr.mono (by omega)) (by rfl) m__law_gcd k__law_gcd b__law_gcd .nil pass0 (pa_cons (pe_ix ix_tup (pv 1) pe_int (fun _ _ => rfl)) (pa_cons (pe_ix ix_tup (pv 1) pe_int (fun _ _ => rfl)) pa_nil))) pe_int (nomark _))))))), ?_⟩
    refine ⟨_, rfl, _, _, rfl, rfl, _, rfl, ite2 (fun e => ?_) (fun e => ?_)⟩
    · have e := of_decide_eq_true e
      have q : Q (.bl (decide (p.2 = 1) && (decide (0 ≤ p.1) && decide (p.1 < a)))) H := by
        have q := q
        unfold isNB at q
        rw [if_neg (by omega)] at q
        exact q
      refine ⟨_, rfl, px, _, _, _, rfl, rfl, hx, at1 _ _, rfl, _, rfl, ?_⟩
      rw [decI]
      refine ite2 (fun e => ?_) (fun e => ?_)
      · rw [e, Bool.true_and] at q
        refine ⟨_, rfl, px, _, _, _, rfl, rfl, hx, at0 _ _, _, _, rfl, rfl, _, rfl, ite2 (fun e => ?_) (fun e => ?_)⟩
        · rw [e, Bool.true_and] at q
          exact ⟨_, rfl, _, _, rfl, rfl, q⟩
        · rw [eq_false_of_ne_true e, Bool.false_and] at q
          exact q
      · rw [eq_false_of_ne_true e, Bool.false_and] at q
        exact q
    · have e : ¬ 0 < a := fun z => e (decide_eq_true z)
      have e0 : a = 0 := by omega
      subst e0
      have q : Q (.bl (decide (0 < p.2) && decide (((Nat.gcd p.1.natAbs p.2.natAbs : Nat) : Int) = 1))) H := by
        have e1 : decide (0 < p.2) = decide (1 ≤ p.2) := by
          by_cases h : 0 < p.2
          · rw [decide_eq_true h, decide_eq_true (show 1 ≤ p.2 by omega)]
          · rw [decide_eq_false h, decide_eq_false (show ¬ 1 ≤ p.2 by omega)]
        rw [e1]
        exact q
      refine ⟨_, rfl, px, _, _, _, rfl, rfl, hx, at1 _ _, _, _, rfl, rfl, _, rfl, ite2 (fun e => ?_) (fun e => ?_)⟩
      · rw [e, Bool.true_and] at q
        refine ⟨_, rfl, px, _, _, _, rfl, rfl, hx, at0 _ _, _, rfl, px, _, _, _, rfl, rfl, hx, at1 _ _, _, _, rfl, rfl, ?_⟩
        rw [decI]
        exact q
      · rw [eq_false_of_ne_true e, Bool.false_and] at q
        exact q
def spOdd (K : PySem.W.Frag) : Sp := fun vs H Q _ => ∃ (box l : Addr) (f : Int), vs = [.ref box, .int f] ∧ BoxAt H box l ∧ 0 ≤ f ∧ f ≤ 97 ∧ ∀ H' v q, Stp box l H H' → NumV K H' v q → Sm 4000 q → Q v H'
theorem len__law_odd_pair {K vs H Q E} (h : spOdd K vs H Q E) : vs.length = (["_law_box", "_law_field_here"] : List Str).length := by
  obtain ⟨f, x, p, rfl, _⟩ := h
  rfl
theorem NumsV.newL {K : PySem.W.Frag} {H : Hp} {p : Addr} {o : HO} {vs : List V} {qs : List Pr} (h : NumsV K H vs qs) (hp : H p = none) : NumsV K (upd H p o) vs qs := NumsV.same (same_new hp) h
theorem d__law_odd_pair {P : Program} {w : World} {K : PySem.W.Frag} {mg : Str → Option Value} {base : Heap} (R : Raw K mg "_law_odd_pair" s__law_odd_pair) (D__law_any : Def P w K mg base "_law_any" 2 ["_law_box", "_law_some"] (spAny K)) : Def P w K mg base "_law_odd_pair" 3 ["_law_box", "_law_field_here"] (spOdd K) := by
  obtain ⟨f, fd, F, m⟩ := R
  obtain ⟨f__law_any, fd__law_any, G__law_any, m__law_any, k__law_any, b__law_any⟩ := D__law_any
  refine ⟨f, fd, F.ok sc__law_odd_pair (fun vs H Q E h => ?_) (fun cdv A outer s H vs Q E hr h => ?_), m, F.kp, F.binds (ps := ["_law_box", "_law_field_here"]) fun _ _ _ _ _ _ us hl => match us, hl with | [_, _], _ => rfl⟩
  · exact len__law_odd_pair h

  · obtain ⟨box, l, a, rfl, hb, h0, h97, q⟩ := h
    refine ⟨_, (pss_cons (ps_set (i := 2) sc__law_odd_pair.nd rfl (Or.inl rfl) (pe_lst (pa_cons (pe_tup (pa_cons (pv 1) (pa_cons pe_int pa_nil))) (pa_cons (pe_tup (pa_cons (pe_un un_neg pe_int) (pa_cons pe_int pa_nil))) (pa_cons (pe_tup (pa_cons pe_int (pa_cons pe_int pa_nil))) (pa_cons (pe_tup (pa_cons pe_int (pa_cons pe_int pa_nil))) (pa_cons (pe_tup (pa_cons pe_int (pa_cons pe_int pa_nil))) (pa_cons (pe_tup (pa_cons pe_int (pa_cons (pe_un un_neg pe_int) pa_nil))) (pa_cons (pe_tup (pa_cons pe_int (pa_cons pe_int pa_nil))) (pa_cons (pe_tup (pa_cons pe_int (pa_cons pe_int pa_nil))) (pa_cons (pe_tup (pa_cons pe_int (pa_cons pe_int pa_nil))) pa_nil))))))))))) (pss_cons (ps_set (i := 2) sc__law_odd_pair.nd rfl (Or.inl rfl) (pe_op op_cat (pv 2) (pe_lst (pa_cons (pe_tup (pa_cons (pe_op op_pow pe_int pe_int) (pa_cons pe_int pa_nil))) (pa_cons (pe_tup (pa_cons (pe_un un_neg (pe_op op_pow pe_int pe_int)) (pa_cons pe_int pa_nil))) pa_nil))))) (pss_one (ps_ret (pe_call G__law_any (hr.mono (by omega)) (by rfl) m__law_any k__law_any b__law_any .nil pass0 (pa_cons (pv 0) (pa_cons (pe_op op_cat (pv 2) (pe_lst (pa_cons (pe_tup (pa_cons pe_int (pa_cons (pe_op op_pow pe_int pe_int) pa_nil))) (pa_cons (pe_tup (pa_cons pe_int (pa_cons pe_int pa_nil))) (pa_cons (pe_tup (pa_cons pe_int (pa_cons pe_int pa_nil))) pa_nil))))) pa_nil))))))), ?_⟩
    refine asg_lst (K := K) (qs := [(a, 1), (-1, 1), (0, 2), (2, 4), (1, 0), (1, -1), (0, 0), (3, 1), (1, 3)]) ?h (by show 9 ≤ sizeLine; decide) ?k
    case h => exact gNs_cons (gN_tup (gI_v rfl) gI_c) (gNs_cons (gN_tup (gI_neg gI_c) gI_c) (gNs_cons (gN_tup gI_c gI_c) (gNs_cons (gN_tup gI_c gI_c) (gNs_cons (gN_tup gI_c gI_c) (gNs_cons (gN_tup gI_c (gI_neg gI_c)) (gNs_cons (gN_tup gI_c gI_c) (gNs_cons (gN_tup gI_c gI_c) (gNs_cons (gN_tup gI_c gI_c) gNs_nil))))))))
    case k =>
    intro vs1 H1 p1 s1 n1 hp1
    have l1 := n1.len
    have sp1 := s1.trans (same_new (o := .lst vs1) hp1)
    refine ⟨_, rfl, ?_⟩
    refine lst_gives (K := K) (qs := [((10 : Int) ^ (30 : Int).toNat, 1), (-(10 : Int) ^ (30 : Int).toNat, 1)]) ?h (by show 2 ≤ sizeLine; decide) ?k
    case h => exact gNs_cons (gN_tup (gI_pow gI_c gI_c (cpow (by decide) (by decide) (by decide))) gI_c) (gNs_cons (gN_tup (gI_neg (gI_pow gI_c gI_c (cpow (by decide) (by decide) (by decide)))) gI_c) gNs_nil)
    case k =>
    intro vs2 H2 p2 s2 n2 hp2
    have l2 := n2.len
    have sp2 := sp1.trans (s2.trans (same_new (o := .lst vs2) hp2))
    have e1 : (upd H2 p2 (.lst vs2)) p1 = some (.lst vs1) := same_new hp2 _ _ (s2 _ _ upd_same)
    refine ⟨p1, p2, vs1, vs2, rfl, rfl, e1, upd_same, by rw [l1, l2]; show 11 ≤ sizeLine; decide, fun p3 hp3 => ?_⟩
    have sp3 := sp2.trans (same_new (o := .lst (vs1 ++ vs2)) hp3)
    have n12 := NumsV.newL (o := .lst (vs1 ++ vs2)) (NumsV.app (NumsV.newL (o := .lst vs2) (NumsV.same s2 (NumsV.newL (o := .lst vs1) n1 hp1)) hp2) (NumsV.newL (o := .lst vs2) n2 hp2)) hp3
    refine ⟨_, rfl, _, rfl, ?_⟩
    refine lst_gives (K := K) (qs := [(7, (10 : Int) ^ (30 : Int).toNat), (1, 1), (0, 1)]) ?h (by show 3 ≤ sizeLine; decide) ?k
    case h => exact gNs_cons (gN_tup gI_c (gI_pow gI_c gI_c (cpow (by decide) (by decide) (by decide)))) (gNs_cons (gN_tup gI_c gI_c) (gNs_cons (gN_tup gI_c gI_c) gNs_nil))
    case k =>
    intro vs4 H4 p4 s4 n4 hp4
    have l4 := n4.len
    have sp4 := sp3.trans (s4.trans (same_new (o := .lst vs4) hp4))
    have e3 : (upd H4 p4 (.lst vs4)) p3 = some (.lst (vs1 ++ vs2)) := same_new hp4 _ _ (s4 _ _ upd_same)
    have n14 := NumsV.app (NumsV.newL (NumsV.same s4 n12) (o := .lst vs4) hp4) (NumsV.newL n4 (o := .lst vs4) hp4)
    have lA : (vs1 ++ vs2).length = 11 := by rw [List.length_append, l1, l2]; rfl
    have lB : (vs1 ++ vs2 ++ vs4).length = 14 := by rw [List.length_append, lA, l4]; rfl
    refine ⟨p3, p4, vs1 ++ vs2, vs4, rfl, rfl, e3, upd_same, by rw [lA, l4]; show 14 ≤ sizeLine; decide, fun p5 hp5 => ?_⟩
    have sp5 := sp4.trans (same_new (o := .lst (vs1 ++ vs2 ++ vs4)) hp5)
    have n15 := NumsV.newL n14 (o := .lst (vs1 ++ vs2 ++ vs4)) hp5
    refine ⟨box, l, p5, _, rfl, hb.same sp5, SqL.of upd_same, (hb.same sp4).ne hp5, ?_, by rw [lB]; decide, fun H6 x st hx => ?_⟩
    · intro e
      rw [e] at lB
      cases lB
    · obtain ⟨r, hm, hr⟩ := n15.mem hx
      refine q H6 x r ⟨(Keep.of sp5).trans st.keep, st.box⟩ (hr.keep (hb.same sp5) st.keep) (Sm.mono (n := 110) ?_ (by decide))
      simp only [List.mem_append, List.mem_cons, List.not_mem_nil, or_false] at hm
      rcases hm with ((h | h | h | h | h | h | h | h | h) | (h | h)) | (h | h | h) <;> subst h <;> first | exact ⟨by decide, by decide⟩ | exact ⟨by show a.natAbs < 2 ^ 110; omega, by show (1 : Int).natAbs < 2 ^ 110; decide⟩
theorem d__law_plus {P : Program} {w : World} {K : PySem.W.Frag} {mg : Str → Option Value} {base : Heap} (R : Raw K mg "_law_plus" s__law_plus) (D__law_num : Def P w K mg base "_law_num" 2 ["_law_field_here", "_law_top", "_law_bottom"] (spNum K)) : Def P w K mg base "_law_plus" 3 ["_law_field_here", "_law_one", "_law_other"] (spTwo K addN) := by
  obtain ⟨f, fd, F, m⟩ := R
  obtain ⟨f__law_num, fd__law_num, G__law_num, m__law_num, k__law_num, b__law_num⟩ := D__law_num
  refine ⟨f, fd, F.ok sc__law_plus (fun vs H Q E h => ?_) (fun cdv A outer s H vs Q E hr h => ?_), m, F.kp, F.binds (ps := ["_law_field_here", "_law_one", "_law_other"]) fun _ _ _ _ _ _ us hl => match us, hl with | [_, _, _], _ => rfl⟩
  · exact len_two h

  · obtain ⟨a, x, y, p, r, rfl, hf, ⟨px, rfl, hx⟩, ⟨py, rfl, hy⟩, ⟨np, sp⟩, ⟨nr, sr⟩, q⟩ := h
    refine ⟨_, (pss_cons (ps_if (pt_cmpR op_gt (pv 0) pe_int (nomark _)) (pss_one (ps_ret (pe_tup (pa_cons (pe_op op_mod (pe_op op_add (pe_ix ix_tup (pv 1) pe_int (fun _ _ => rfl)) (pe_ix ix_tup (pv 2) pe_int (fun _ _ => rfl))) (pv 0)) (pa_cons pe_int pa_nil))))) pss_nil) (pss_one (ps_ret (pe_call G__law_num (hr.mono (by omega)) (by rfl) m__law_num k__law_num b__law_num .nil pass0 (pa_cons pe_int (pa_cons (pe_op op_add (pe_op op_mulW (pe_ix ix_tup (pv 1) pe_int (fun _ _ => rfl)) (pe_ix ix_tup (pv 2) pe_int (fun _ _ => rfl))) (pe_op op_mulW (pe_ix ix_tup (pv 2) pe_int (fun _ _ => rfl)) (pe_ix ix_tup (pv 1) pe_int (fun _ _ => rfl)))) (pa_cons (pe_op op_mulW (pe_ix ix_tup (pv 1) pe_int (fun _ _ => rfl)) (pe_ix ix_tup (pv 2) pe_int (fun _ _ => rfl))) pa_nil))))))), ?_⟩
    refine ⟨_, rfl, _, _, rfl, rfl, _, rfl, ite2 (fun e => ?_) (fun e => ?_)⟩
    · have e := of_decide_eq_true e
      refine ⟨_, rfl, px, _, _, _, rfl, rfl, hx, at0 _ _, _, rfl, py, _, _, _, rfl, rfl, hy, at0 _ _, _, _, rfl, rfl, _, rfl, _, _, rfl, rfl, e, (by show 2 ≤ sizeLine; decide), fun z hz => ?_⟩
      exact q.new (by unfold addN; rw [if_pos (by omega)]) hz
    · have e : ¬ 0 < a := fun z => e (decide_eq_true z)
      have e0 : a = 0 := by
        have := hf.nn
        omega
      subst e0
      have hp := np.den.1
      have hr' := nr.den.1
      refine ⟨_, rfl, px, _, _, _, rfl, rfl, hx, at0 _ _, _, rfl, py, _, _, _, rfl, rfl, hy, at1 _ _, _, _, rfl, rfl, wm sp.1 sr.2, ?_⟩
      refine ⟨_, rfl, py, _, _, _, rfl, rfl, hy, at0 _ _, _, rfl, px, _, _, _, rfl, rfl, hx, at1 _ _, _, _, rfl, rfl, wm sr.1 sp.2, _, _, rfl, rfl, ?_⟩
      refine ⟨_, rfl, px, _, _, _, rfl, rfl, hx, at1 _ _, _, rfl, py, _, _, _, rfl, rfl, hy, at1 _ _, _, _, rfl, rfl, wm sp.2 sr.2, ?_⟩
      have hm : p.2 * r.2 ≠ 0 := Int.mul_ne_zero (by omega) (by omega)
      refine ⟨0, _, _, rfl, hf, by rw [nouB0]; exact decide_eq_false hm, fun _ => Nat.lt_trans (mul_small sp.2 sr.2) (Nat.pow_lt_pow_right (by decide) (by decide)), ?_⟩
      exact q
theorem d__law_times {P : Program} {w : World} {K : PySem.W.Frag} {mg : Str → Option Value} {base : Heap} (R : Raw K mg "_law_times" s__law_times) (D__law_num : Def P w K mg base "_law_num" 2 ["_law_field_here", "_law_top", "_law_bottom"] (spNum K)) : Def P w K mg base "_law_times" 3 ["_law_field_here", "_law_one", "_law_other"] (spTwo K mulN) := by
  obtain ⟨f, fd, F, m⟩ := R
  obtain ⟨f__law_num, fd__law_num, G__law_num, m__law_num, k__law_num, b__law_num⟩ := D__law_num
  refine ⟨f, fd, F.ok sc__law_times (fun vs H Q E h => ?_) (fun cdv A outer s H vs Q E hr h => ?_), m, F.kp, F.binds (ps := ["_law_field_here", "_law_one", "_law_other"]) fun _ _ _ _ _ _ us hl => match us, hl with | [_, _, _], _ => rfl⟩
  · exact len_two h

  · obtain ⟨a, x, y, p, r, rfl, hf, ⟨px, rfl, hx⟩, ⟨py, rfl, hy⟩, ⟨np, sp⟩, ⟨nr, sr⟩, q⟩ := h
    refine ⟨_, (pss_cons (ps_if (pt_cmpR op_gt (pv 0) pe_int (nomark _)) (pss_one (ps_ret (pe_tup (pa_cons (pe_op op_mod (pe_op op_mulW (pe_ix ix_tup (pv 1) pe_int (fun _ _ => rfl)) (pe_ix ix_tup (pv 2) pe_int (fun _ _ => rfl))) (pv 0)) (pa_cons pe_int pa_nil))))) pss_nil) (pss_one (ps_ret (pe_call G__law_num (hr.mono (by omega)) (by rfl) m__law_num k__law_num b__law_num .nil pass0 (pa_cons pe_int (pa_cons (pe_op op_mulW (pe_ix ix_tup (pv 1) pe_int (fun _ _ => rfl)) (pe_ix ix_tup (pv 2) pe_int (fun _ _ => rfl))) (pa_cons (pe_op op_mulW (pe_ix ix_tup (pv 1) pe_int (fun _ _ => rfl)) (pe_ix ix_tup (pv 2) pe_int (fun _ _ => rfl))) pa_nil))))))), ?_⟩
    refine ⟨_, rfl, _, _, rfl, rfl, _, rfl, ite2 (fun e => ?_) (fun e => ?_)⟩
    · have e := of_decide_eq_true e
      refine ⟨_, rfl, px, _, _, _, rfl, rfl, hx, at0 _ _, _, rfl, py, _, _, _, rfl, rfl, hy, at0 _ _, _, _, rfl, rfl, wm sp.1 sr.1, _, rfl, _, _, rfl, rfl, e, (by show 2 ≤ sizeLine; decide), fun z hz => ?_⟩
      exact q.new (by unfold mulN; rw [if_pos (by omega)]) hz
    · have e : ¬ 0 < a := fun z => e (decide_eq_true z)
      have e0 : a = 0 := by
        have := hf.nn
        omega
      subst e0
      have hp := np.den.1
      have hr' := nr.den.1
      refine ⟨_, rfl, px, _, _, _, rfl, rfl, hx, at0 _ _, _, rfl, py, _, _, _, rfl, rfl, hy, at0 _ _, _, _, rfl, rfl, wm sp.1 sr.1, ?_⟩
      refine ⟨_, rfl, px, _, _, _, rfl, rfl, hx, at1 _ _, _, rfl, py, _, _, _, rfl, rfl, hy, at1 _ _, _, _, rfl, rfl, wm sp.2 sr.2, ?_⟩
      have hm : p.2 * r.2 ≠ 0 := Int.mul_ne_zero (by omega) (by omega)
      refine ⟨0, _, _, rfl, hf, by rw [nouB0]; exact decide_eq_false hm, fun _ => Nat.lt_trans (mul_small sp.2 sr.2) (Nat.pow_lt_pow_right (by decide) (by decide)), ?_⟩
      exact q
theorem len_oneL {K nz g vs H Q E} (h : spOne K nz g vs H Q E) : vs.length = (["_law_field_here", "_law_number_here"] : List Str).length := by
  obtain ⟨f, x, p, rfl, _⟩ := h
  rfl
theorem d__law_less {P : Program} {w : World} {K : PySem.W.Frag} {mg : Str → Option Value} {base : Heap} (R : Raw K mg "_law_less" s__law_less)  : Def P w K mg base "_law_less" 1 ["_law_field_here", "_law_number_here"] (spOne K false negN) := by
  obtain ⟨f, fd, F, m⟩ := R
  refine ⟨f, fd, F.ok sc__law_less (fun vs H Q E h => ?_) (fun cdv A outer s H vs Q E hr h => ?_), m, F.kp, F.binds (ps := ["_law_field_here", "_law_number_here"]) fun _ _ _ _ _ _ us hl => match us, hl with | [_, _], _ => rfl⟩
  · exact len_one h

  · obtain ⟨a, x, p, rfl, hf, ⟨px, rfl, hx⟩, ⟨np, sp⟩, _, q⟩ := h
    refine ⟨_, (pss_one (ps_ret (pe_ifExp (pt_cmpR op_gt (pv 0) pe_int (nomark _)) (pe_tup (pa_cons (pe_op op_mod (pe_op op_sub pe_int (pe_ix ix_tup (pv 1) pe_int (fun _ _ => rfl))) (pv 0)) (pa_cons pe_int pa_nil))) (pe_tup (pa_cons (pe_op op_sub pe_int (pe_ix ix_tup (pv 1) pe_int (fun _ _ => rfl))) (pa_cons (pe_ix ix_tup (pv 1) pe_int (fun _ _ => rfl)) pa_nil)))))), ?_⟩
    refine ⟨_, rfl, _, _, rfl, rfl, _, rfl, ite2 (fun e => ?_) (fun e => ?_)⟩
    · have e := of_decide_eq_true e
      refine ⟨_, rfl, px, _, _, _, rfl, rfl, hx, at0 _ _, _, _, rfl, rfl, _, rfl, _, _, rfl, rfl, e, (by show 2 ≤ sizeLine; decide), fun z hz => ?_⟩
      exact q.new (by unfold negN; rw [if_pos (by omega), Int.zero_sub]) hz
    · have e : ¬ 0 < a := fun z => e (decide_eq_true z)
      have e0 : a = 0 := by
        have := hf.nn
        omega
      subst e0
      refine ⟨_, rfl, px, _, _, _, rfl, rfl, hx, at0 _ _, _, _, rfl, rfl, _, rfl, px, _, _, _, rfl, rfl, hx, at1 _ _, (by show 2 ≤ sizeLine; decide), fun z hz => ?_⟩
      exact q.new (by unfold negN; rw [if_neg (by simp), Int.zero_sub]) hz
theorem d__law_over {P : Program} {w : World} {K : PySem.W.Frag} {mg : Str → Option Value} {base : Heap} (R : Raw K mg "_law_over" s__law_over) (D__law_num : Def P w K mg base "_law_num" 2 ["_law_field_here", "_law_top", "_law_bottom"] (spNum K)) : Def P w K mg base "_law_over" 3 ["_law_field_here", "_law_number_here"] (spOne K true invN) := by
  obtain ⟨f, fd, F, m⟩ := R
  obtain ⟨f__law_num, fd__law_num, G__law_num, m__law_num, k__law_num, b__law_num⟩ := D__law_num
  refine ⟨f, fd, F.ok sc__law_over (fun vs H Q E h => ?_) (fun cdv A outer s H vs Q E hr h => ?_), m, F.kp, F.binds (ps := ["_law_field_here", "_law_number_here"]) fun _ _ _ _ _ _ us hl => match us, hl with | [_, _], _ => rfl⟩
  · exact len_one h

  · obtain ⟨a, x, p, rfl, hf, ⟨px, rfl, hx⟩, ⟨np, sp⟩, h0, q⟩ := h
    have h0 := h0 rfl
    refine ⟨_, (pss_one (ps_ret (pe_call G__law_num (hr.mono (by omega)) (by rfl) m__law_num k__law_num b__law_num .nil pass0 (pa_cons (pv 0) (pa_cons (pe_ix ix_tup (pv 1) pe_int (fun _ _ => rfl)) (pa_cons (pe_ix ix_tup (pv 1) pe_int (fun _ _ => rfl)) pa_nil)))))), ?_⟩
    refine ⟨_, rfl, _, rfl, px, _, _, _, rfl, rfl, hx, at1 _ _, _, rfl, px, _, _, _, rfl, rfl, hx, at0 _ _, ?_⟩
    exact ⟨a, _, _, rfl, hf, nou_num hf np h0, fun _ => Nat.lt_trans sp.1 (Nat.pow_lt_pow_right (by decide) (by decide)), q⟩
def spGreat (K : PySem.W.Frag) : Sp := fun vs H Q _ => ∃ (box l : Addr) (f : Int), vs = [.ref box, .int f] ∧ BoxAt H box l ∧ IsF f ∧ ∀ H' v q, Stp box l H H' → NumV K H' v q → IsN f q → Sm 4000 q → Q v H'
theorem len__law_great {K vs H Q E} (h : spGreat K vs H Q E) : vs.length = (["_law_box", "_law_field_here"] : List Str).length := by
  obtain ⟨f, x, p, rfl, _⟩ := h
  rfl
theorem great_step {t : Int} {u c : Int} {i : Nat} (h : t.natAbs < 2 ^ (140 + 201 * i)) (hc : c.natAbs < 2 ^ 200) (hu : u.natAbs < 2 ^ 20) : (t * c + u).natAbs < 2 ^ (140 + 201 * (i + 1)) := by
  have h1 := mul_small h hc
  have h2 := Int.natAbs_add_le (t * c) u
  have e : (2 : Nat) ^ (140 + 201 * (i + 1)) = 2 ^ (140 + 201 * i + 200) * 2 := by
    rw [← Nat.pow_succ]
    congr 1
  have h3 : (2 : Nat) ^ 20 ≤ 2 ^ (140 + 201 * i + 200) := Nat.pow_le_pow_right (by decide) (by omega)
  rw [e]
  omega
theorem d__law_great {P : Program} {w : World} {K : PySem.W.Frag} {mg : Str → Option Value} {base : Heap} (R : Raw K mg "_law_great" s__law_great) (B : Bn mg) (D__law_num : Def P w K mg base "_law_num" 2 ["_law_field_here", "_law_top", "_law_bottom"] (spNum K)) (D__law_number : Def P w K mg base "_law_number" 3 ["_law_box", "_law_field_here"] (spNumber K)) (D__law_draw : Def P w K mg base "_law_draw" 1 ["_law_box", "_law_many"] (spDraw)) : Def P w K mg base "_law_great" 4 ["_law_box", "_law_field_here"] (spGreat K) := by
  obtain ⟨f, fd, F, m⟩ := R
  obtain ⟨f__law_num, fd__law_num, G__law_num, m__law_num, k__law_num, b__law_num⟩ := D__law_num
  obtain ⟨f__law_number, fd__law_number, G__law_number, m__law_number, k__law_number, b__law_number⟩ := D__law_number
  obtain ⟨f__law_draw, fd__law_draw, G__law_draw, m__law_draw, k__law_draw, b__law_draw⟩ := D__law_draw
  refine ⟨f, fd, F.ok sc__law_great (fun vs H Q E h => ?_) (fun cdv A outer s H vs Q E hr h => ?_), m, F.kp, F.binds (ps := ["_law_box", "_law_field_here"]) fun _ _ _ _ _ _ us hl => match us, hl with | [_, _], _ => rfl⟩
  · exact len__law_great h

  · obtain ⟨box, l, a, rfl, hb, hf, q⟩ := h
    refine ⟨_, (pss_cons (ps_if (PW.pt (pw_or (pt_cmpR op_gt (pv 1) pe_int (nomark _)) (pw_or1 (pt_cmpR op_gt (pe_call G__law_draw (hr.mono (by omega)) (by rfl) m__law_draw k__law_draw b__law_draw .nil pass0 (pa_cons (pv 0) (pa_cons pe_int pa_nil))) pe_int (nomark _))))) (pss_one (ps_ret (pe_call G__law_number (hr.mono (by omega)) (by rfl) m__law_number k__law_number b__law_number .nil pass0 (pa_cons (pv 0) (pa_cons (pv 1) pa_nil))))) pss_nil) (pss_cons (ps_set (i := 2) sc__law_great.nd rfl (Or.inl rfl) (pe_op op_sub (pe_call G__law_draw (hr.mono (by omega)) (by rfl) m__law_draw k__law_draw b__law_draw .nil pass0 (pa_cons (pv 0) (pa_cons (pe_op op_pow pe_int pe_int) pa_nil))) (pe_op op_pow pe_int pe_int))) (pss_cons (ps_set (i := 3) sc__law_great.nd rfl (Or.inl rfl) (pe_op op_add pe_int (pe_call G__law_draw (hr.mono (by omega)) (by rfl) m__law_draw k__law_draw b__law_draw .nil pass0 (pa_cons (pv 0) (pa_cons (pe_op op_pow pe_int pe_int) pa_nil))))) (pss_cons (ps_for PassesOwn.never rfl (pi_range1 (by rfl) B.range (pa_cons (pe_op op_mul pe_int (pe_callTy call_int1 (by rfl) B.int (by decide +kernel) (pa_cons (pe_cmpR op_eq (pe_call G__law_draw (hr.mono (by omega)) (by rfl) m__law_draw k__law_draw b__law_draw .nil pass0 (pa_cons (pv 0) (pa_cons pe_int pa_nil))) pe_int (nomark _)) pa_nil))) pa_nil)) (pg_name (i := 4) sc__law_great.nd rfl (Or.inl rfl)) (pss_cons (ps_set (i := 2) sc__law_great.nd rfl (Or.inl rfl) (pe_op op_add (pe_op op_mulW (pv 2) (pe_op op_pow pe_int pe_int)) (pe_call G__law_draw (hr.mono (by omega)) (by rfl) m__law_draw k__law_draw b__law_draw .nil pass0 (pa_cons (pv 0) (pa_cons (pe_op op_pow pe_int pe_int) pa_nil))))) (pss_one (ps_set (i := 3) sc__law_great.nd rfl (Or.inl rfl) (pe_op op_add (pe_op op_mulW (pv 3) (pe_op op_add (pe_op op_pow pe_int pe_int) pe_int)) pe_int))))) (pss_one (ps_ret (pe_call G__law_num (hr.mono (by omega)) (by rfl) m__law_num k__law_num b__law_num .nil pass0 (pa_cons pe_int (pa_cons (pv 2) (pa_cons (pv 3) pa_nil)))))))))), ?_⟩
    have small : ∀ {H1 : Hp}, Stp box l H H1 → spNumber K [.ref box, .int a] H1 Q E0 := fun st => ⟨box, l, a, rfl, st.box, hf, fun H' v r st2 hv hN hS => q H' v r (st.trans st2) hv hN (hS.mono (by decide))⟩
    refine ⟨_, rfl, _, _, rfl, rfl, _, rfl, ite2 (fun e => ?_) (fun e => ?_)⟩
    · exact iteT ⟨_, rfl, _, rfl, small (Stp.refl hb)⟩
    · have e : ¬ 0 < a := fun z => e (decide_eq_true z)
      have e0 : a = 0 := by
        have := hf.nn
        omega
      subst e0
      refine ⟨_, rfl, box, l, _, rfl, hb, by decide, by decide +kernel, fun H1 d1 st1 _ _ => ?_⟩
      refine ⟨_, _, rfl, rfl, _, rfl, ite2 (fun _ => ?_) (fun _ => ?_)⟩
      · exact ⟨_, rfl, _, rfl, small st1⟩
      · refine ⟨_, rfl, _, _, rfl, rfl, cpow (by decide) (by decide) (by decide), box, l, _, rfl, st1.box, by decide, by decide +kernel, fun H2 d2 st2 d20 d21 => ?_⟩
        refine ⟨_, _, rfl, rfl, cpow (by decide) (by decide) (by decide), _, _, rfl, rfl, ?_⟩
        refine ⟨_, rfl, _, _, rfl, rfl, cpow (by decide) (by decide) (by decide), box, l, _, rfl, st2.box, by decide, by decide +kernel, fun H3 d3 st3 d30 d31 => ?_⟩
        refine ⟨_, _, rfl, rfl, ?_⟩
        refine ⟨_, rfl, box, l, _, rfl, st3.box, by decide, by decide +kernel, fun H4 d4 st4 d40 d41 => ?_⟩
        have d21 : d2 < 10 ^ 40 := d21
        have d31 : d3 < 10 ^ 39 := d31
        have stt := ((st1.trans st2).trans st3).trans st4
        have hb2i : b2i (decide (V.int d4 = V.int 0)) = 0 ∨ b2i (decide (V.int d4 = V.int 0)) = 1 := by
          cases decide (V.int d4 = V.int 0) with
          | true => exact .inr rfl
          | false => exact .inl rfl
        refine ⟨rfl, .inr ⟨_, rfl, _, _, rfl, rfl, .inl ⟨by decide, by decide⟩, _, rfl, by omega, by omega, ?_⟩⟩
        refine for_range (lo := 0) (n := (8 * b2i (decide (V.int d4 = V.int 0))).toNat) (fun i σ H' => Stp box l H H' ∧ ∃ (t b : Int) (z : Option V), t.natAbs < 2 ^ (140 + 201 * i) ∧ b.natAbs < 2 ^ (140 + 201 * i) ∧ 1 ≤ b ∧ σ = [some (.ref box), some (.int 0), some (.int t), some (.int b), z])
          ⟨stt, d2 - 10 ^ (39 : Int).toNat, 1 + d3, none, ?_, ?_, by omega, rfl⟩ ?_ ?_
        · show _ < 2 ^ 140
          have : (10 : Int) ^ (39 : Int).toNat = 10 ^ 39 := rfl
          rw [this]
          omega
        · show _ < 2 ^ 140
          omega
        · rintro i σ H' hi ⟨st, t, b, z, ht, hbb, hb1, rfl⟩
          have hi8 : i < 8 := by
            rcases hb2i with h | h <;> rw [h] at hi
            · exact absurd hi (Nat.not_lt_zero i)
            · exact hi
          have h60 : ((10 : Int) ^ (60 : Int).toNat).natAbs < 2 ^ 200 := by decide
          have h607 : ((10 : Int) ^ (60 : Int).toNat + 7).natAbs < 2 ^ 200 := by decide
          refine ⟨_, rfl, _, _, rfl, rfl, cpow (by decide) (by decide) (by decide), _, _, rfl, rfl, wide_mul ht h60 (by omega) (by decide) (by omega), ?_⟩
          refine ⟨_, rfl, _, _, rfl, rfl, cpow (by decide) (by decide) (by decide), box, l, _, rfl, st.box, by decide, by decide +kernel, fun H5 d5 st5 d50 d51 => ?_⟩
          have d51 : d5 < 10 ^ 6 := d51
          refine ⟨_, _, rfl, rfl, _, rfl, _, _, rfl, rfl, cpow (by decide) (by decide) (by decide), _, _, rfl, rfl, _, _, rfl, rfl, wide_mul hbb h607 (by omega) (by decide) (by omega), _, _, rfl, rfl, ?_⟩
          have hpos : 1 ≤ b * ((10 : Int) ^ (60 : Int).toNat + 7) := by
            have e60 : (10 : Int) ^ (60 : Int).toNat + 7 = 10 ^ 60 + 7 := rfl
            rw [e60]
            omega
          exact ⟨st.trans st5, _, _, _, great_step ht h60 (by omega), great_step hbb h607 (by decide), by omega, rfl⟩
        · rintro σ H' ⟨st, t, b, z, ht, hbb, hb1, rfl⟩
          have n8 : (8 * b2i (decide (V.int d4 = V.int 0))).toNat ≤ 8 := by omega
          have bd : ∀ {x : Int}, x.natAbs < 2 ^ (140 + 201 * (8 * b2i (decide (V.int d4 = V.int 0))).toNat) → x.natAbs < 2 ^ 4000 := fun h => Nat.lt_of_lt_of_le h (Nat.pow_le_pow_right (by decide) (by omega))
          have hbn : b ≠ 0 := by omega
          have hle := low0_le (t := t) hbn
          refine ⟨_, rfl, _, rfl, 0, t, b, rfl, hf, by rw [nouB0]; exact decide_eq_false hbn, fun _ => Nat.lt_trans (bd hbb) (Nat.pow_lt_pow_right (a := 2) (m := 4000) (by decide) (by decide)), fun H7 v s hv => ?_⟩
          exact q _ _ _ (st.same s) hv (isN_low0 hbn) ⟨Nat.lt_of_le_of_lt hle.1 (bd ht), Nat.lt_of_le_of_lt hle.2 (bd hbb)⟩

/-! ## _law_like -/
theorem tyT {K : PySem.W.Frag} {H : Hp} {a : Addr} {xs : List V} (h : SqT K H a xs) : TyX K H (.ref a) (.type "tuple") := by
  rcases h with (h | ⟨o, h⟩) | ⟨o, _, _, h1, h2, _⟩
  · exact .base (.tup h)
  · exact .fTuple h
  · exact .kTuple h1 h2
theorem tyL {K : PySem.W.Frag} {H : Hp} {a : Addr} {xs : List V} (h : SqL K H a xs) : TyX K H (.ref a) (.type "list") := by
  rcases h with (h | ⟨o, h⟩) | ⟨o, _, _, h1, h2, _⟩
  · exact .base (.lst h)
  · exact .base (.frz h)
  · exact .kList h1 h2
def spInt : Sp := fun vs H Q _ => ∃ i : Int, vs = [.int i] ∧ Q (.bl true) H
theorem len__law_int {vs H Q E} (h : spInt vs H Q E) : vs.length = (["_law_found"] : List Str).length := by
  obtain ⟨i, rfl, _⟩ := h
  rfl
theorem d__law_int {P : Program} {w : World} {K : PySem.W.Frag} {mg : Str → Option Value} {base : Heap} (R : Raw K mg "_law_int" s__law_int) (B : Bn mg)  : Def P w K mg base "_law_int" 1 ["_law_found"] (spInt) := by
  obtain ⟨f, fd, F, m⟩ := R
  refine ⟨f, fd, F.ok sc__law_int (fun vs H Q E h => ?_) (fun cdv A outer s H vs Q E hr h => ?_), m, F.kp, F.binds (ps := ["_law_found"]) fun _ _ _ _ _ _ us hl => match us, hl with | [_], _ => rfl⟩
  · exact len__law_int h

  · obtain ⟨i, rfl, q⟩ := h
    refine ⟨_, (pss_one (ps_ret (pe_and (pe_callB call_isi (by rfl) B.isinstance (by decide +kernel) (pa_cons (pv 0) (pa_cons (pe_bltn (v := .ty "int") (by rfl) B.int (by decide +kernel) rfl) pa_nil))) (pe_one (pe_not (pe_callB call_isi (by rfl) B.isinstance (by decide +kernel) (pa_cons (pv 0) (pa_cons (pe_bltn (v := .ty "bool") (by rfl) B.bool (by decide +kernel) rfl) pa_nil)))))))), ?_⟩
    refine ⟨_, rfl, _, _, _, _, true, rfl, .ty _, .base (.int i), kit_ty (by decide +kernel), true, rfl, iteT ?_⟩
    exact ⟨_, rfl, _, _, _, _, false, rfl, .ty _, .base (.int i), kit_ty (by decide +kernel), false, rfl, q⟩
/-- data of a depth, its lists not too long -/
def okD : Nat → PyData → Prop
  | _, .none => True
  | _, .bool _ => True
  | _, .int _ => True
  | _, .str _ => True
  | n + 1, .list ds => ds.length ≤ 1000 ∧ ∀ d, d ∈ ds → okD n d
  | n + 1, .tuple ds => ds.length ≤ 1000 ∧ ∀ d, d ∈ ds → okD n d
  | _, _ => False
/-- the two hold the same data -/
def spLike (K : PySem.W.Frag) (n : Nat) : Sp := fun vs H Q _ => ∃ (x y : V) (d : PyData), vs = [x, y] ∧ Dp K H x d ∧ Dp K H y d ∧ okD n d ∧ ∀ H', Same H H' → Q (.bl true) H'
theorem len__law_like {K n vs H Q E} (h : spLike K n vs H Q E) : vs.length = (["_law_found", "_law_due"] : List Str).length := by
  obtain ⟨x, y, d, rfl, _⟩ := h
  rfl
theorem DpAll.get {K : PySem.W.Frag} {H : Hp} : ∀ {vs : List V} {ds : List PyData} {i : Nat}, DpAll K H vs ds → i < ds.length → ∃ v d, vs[i]? = some v ∧ ds[i]? = some d ∧ Dp K H v d
  | _, _, _, .nil, h => by cases h
  | _, _, 0, .cons r _, _ => ⟨_, _, rfl, rfl, r⟩
  | _, _, i + 1, .cons _ t, h => by
    obtain ⟨v, d, h1, h2, h3⟩ := DpAll.get (i := i) t (Nat.lt_of_succ_lt_succ h)
    exact ⟨v, d, h1, h2, h3⟩
theorem DpAll.length {K : PySem.W.Frag} {H : Hp} : ∀ {vs : List V} {ds : List PyData}, DpAll K H vs ds → vs.length = ds.length
  | _, _, .nil => rfl
  | _, _, .cons _ t => congrArg Nat.succ (DpAll.length t)
mutual
theorem Dp.same {K : PySem.W.Frag} {H H' : Hp} (s : Same H H') : ∀ {v : V} {d : PyData}, Dp K H v d → Dp K H' v d
  | _, _, .non => .non
  | _, _, .bl b => .bl b
  | _, _, .int i => .int i
  | _, _, .str x => .str x
  | _, _, .lst h a => .lst (s.seq h) (DpAll.same s a)
  | _, _, .tup h a => .tup (Same.seqT s h) (DpAll.same s a)
theorem DpAll.same {K : PySem.W.Frag} {H H' : Hp} (s : Same H H') : ∀ {vs : List V} {ds : List PyData}, DpAll K H vs ds → DpAll K H' vs ds
  | _, _, .nil => .nil
  | _, _, .cons r t => .cons (Dp.same s r) (DpAll.same s t)
end
theorem like_ok {P : Program} {w : World} {K : PySem.W.Frag} {mg : Str → Option Value} {base : Heap} {f : Addr} {fd : FuncData} (F : Fun K "_law_like" "_law_like" s__law_like f fd) (m__law_like : mg "_law_like" = some (.ref f)) (B : Bn mg)
    (D__law_int : Def P w K mg base "_law_int" 1 ["_law_found"] spInt) : ∀ n, FnOk P w K mg base CX0 (n + 2) f fd ["_law_found", "_law_due"] (spLike K n) := by
  obtain ⟨f__law_int, fd__law_int, G__law_int, m__law_int, k__law_int, b__law_int⟩ := D__law_int
  have b__law_like := F.binds (ps := ["_law_found", "_law_due"]) fun _ _ _ _ _ _ us hl => match us, hl with | [_, _], _ => rfl
  have k__law_like := F.kp
  have run : ∀ n (spL : Sp) (E1 : ∀ vs H Q E, spL vs H Q E → spL vs H Q E), (n = 0 ∨ ∃ m, n = m + 1 ∧ spL = spLike K m) → FnOk P w K mg base CX0 (n + 1) f fd ["_law_found", "_law_due"] spL → FnOk P w K mg base CX0 (n + 2) f fd ["_law_found", "_law_due"] (spLike K n) := by
    intro n spL _ hn G__law_like
    refine F.ok sc__law_like (fun vs H Q E h => len__law_like h) (fun cdv A outer s H vs Q E hr h => ?_)
    obtain ⟨x, y, d, rfl, hx, hy, hd, q⟩ := h
    refine ⟨_, (pss_cons (ps_if (pt_cmpR op_isN (pv 1) pe_non (nomark _)) (pss_one (ps_ret (pe_cmpR op_isN (pv 0) pe_non (nomark _)))) pss_nil) (pss_cons (ps_if (pt_val (pe_callB call_isi (by rfl) B.isinstance (by decide +kernel) (pa_cons (pv 1) (pa_cons (pe_bltn (v := .ty "bool") (by rfl) B.bool (by decide +kernel) rfl) pa_nil)))) (pss_one (ps_ret (pe_and (pe_callB call_isi (by rfl) B.isinstance (by decide +kernel) (pa_cons (pv 0) (pa_cons (pe_bltn (v := .ty "bool") (by rfl) B.bool (by decide +kernel) rfl) pa_nil))) (pe_one (pe_cmpR op_eq (pv 0) (pv 1) (nomark _)))))) pss_nil) (pss_cons (ps_if (pt_val (pe_callB call_isi (by rfl) B.isinstance (by decide +kernel) (pa_cons (pv 1) (pa_cons (pe_bltn (v := .ty "int") (by rfl) B.int (by decide +kernel) rfl) pa_nil)))) (pss_one (ps_ret (pe_and (pe_call G__law_int (hr.mono (by omega)) (by rfl) m__law_int k__law_int b__law_int .nil pass0 (pa_cons (pv 0) pa_nil)) (pe_one (pe_cmpR op_eq (pv 0) (pv 1) (nomark _)))))) pss_nil) (pss_cons (ps_if (pt_val (pe_callB call_isi (by rfl) B.isinstance (by decide +kernel) (pa_cons (pv 1) (pa_cons (pe_bltn (v := .ty "str") (by rfl) B.str (by decide +kernel) rfl) pa_nil)))) (pss_one (ps_ret (pe_and (pe_callB call_isi (by rfl) B.isinstance (by decide +kernel) (pa_cons (pv 0) (pa_cons (pe_bltn (v := .ty "str") (by rfl) B.str (by decide +kernel) rfl) pa_nil))) (pe_one (pe_cmpR op_eq (pv 0) (pv 1) (nomark _)))))) pss_nil) (pss_cons (ps_if (PW.pt (pw_or (pt_cmpR op_ne (pe_callB call_isi (by rfl) B.isinstance (by decide +kernel) (pa_cons (pv 1) (pa_cons (pe_bltn (v := .ty "tuple") (by rfl) B.tuple (by decide +kernel) rfl) pa_nil))) (pe_callB call_isi (by rfl) B.isinstance (by decide +kernel) (pa_cons (pv 0) (pa_cons (pe_bltn (v := .ty "tuple") (by rfl) B.tuple (by decide +kernel) rfl) pa_nil))) (nomark _)) (pw_or1 (pt_cmpR op_ne (pe_callB call_isi (by rfl) B.isinstance (by decide +kernel) (pa_cons (pv 1) (pa_cons (pe_bltn (v := .ty "list") (by rfl) B.list (by decide +kernel) rfl) pa_nil))) (pe_callB call_isi (by rfl) B.isinstance (by decide +kernel) (pa_cons (pv 0) (pa_cons (pe_bltn (v := .ty "list") (by rfl) B.list (by decide +kernel) rfl) pa_nil))) (nomark _))))) (pss_one (ps_ret pe_bl)) pss_nil) (pss_one (ps_ret (pe_and (pe_cmpR op_eq (pe_callB call_len_seq (by rfl) B.len PySem.boot_len (pa_cons (pv 0) pa_nil)) (pe_callB call_len_seq (by rfl) B.len PySem.boot_len (pa_cons (pv 1) pa_nil)) (nomark _)) (pe_one (pe_callB (cr_all rfl) (by rfl) B.all (by decide +kernel) (pa_cons (pe_lc (own := [("_law_k", 2)]) (g := gName 2) (tt := tYes) rfl sc__law_like.nd (pi_range1 (by rfl) B.range (pa_cons (pe_callB call_len_seq (by rfl) B.len PySem.boot_len (pa_cons (pv 1) pa_nil)) pa_nil)) (blkOk_by (N := ["_law_found", "_law_due", "_law_k"]) (sc := defScope s__law_like) (by decide +kernel)) (fun _ _ _ _ _ => pg_name (i := 2) sc__law_like.nd rfl (Or.inl rfl)) (fun _ _ _ _ _ => pts_nil) (fun _ _ _ _ _ => (pe_call G__law_like (hr.mono (by omega)) (by rfl) m__law_like k__law_like b__law_like .nil pass0 (pa_cons (pe_ix (show IxR _ (rIx K) from ix_seq) (pv 0) (pv 2) (fun _ _ => rfl)) (pa_cons (pe_ix (show IxR _ (rIx K) from ix_seq) (pv 1) (pv 2) (fun _ _ => rfl)) pa_nil))))) pa_nil))))))))))), ?_⟩
    have sameQ : Q (.bl true) H := q H (Same.refl H)
    cases hx with
    | non =>
      cases hy
      exact ⟨_, rfl, rfl, _, rfl, iteT ⟨_, rfl, rfl, sameQ⟩⟩
    | bl b =>
      cases hy
      refine ⟨_, rfl, rfl, _, rfl, iteF ?_⟩
      refine ⟨_, rfl, _, _, _, _, true, rfl, .ty _, .base (.bl b), kit_ty (by decide +kernel), true, rfl, iteT ?_⟩
      refine ⟨_, rfl, _, _, _, _, true, rfl, .ty _, .base (.bl b), kit_ty (by decide +kernel), true, rfl, iteT ?_⟩
      refine ⟨_, rfl, _, rfl, rfl, ?_⟩
      rw [decide_eq_true rfl]
      exact sameQ
    | int i =>
      cases hy
      refine ⟨_, rfl, rfl, _, rfl, iteF ?_⟩
      refine ⟨_, rfl, _, _, _, _, false, rfl, .ty _, .base (.int i), kit_ty (by decide +kernel), false, rfl, iteF ?_⟩
      refine ⟨_, rfl, _, _, _, _, true, rfl, .ty _, .base (.int i), kit_ty (by decide +kernel), true, rfl, iteT ?_⟩
      refine ⟨_, rfl, i, rfl, true, rfl, iteT ?_⟩
      refine ⟨_, rfl, _, rfl, rfl, ?_⟩
      rw [decide_eq_true rfl]
      exact sameQ
    | str z =>
      cases hy
      refine ⟨_, rfl, rfl, _, rfl, iteF ?_⟩
      refine ⟨_, rfl, _, _, _, _, false, rfl, .ty _, .base (.str z), kit_ty (by decide +kernel), false, rfl, iteF ?_⟩
      refine ⟨_, rfl, _, _, _, _, false, rfl, .ty _, .base (.str z), kit_ty (by decide +kernel), false, rfl, iteF ?_⟩
      refine ⟨_, rfl, _, _, _, _, true, rfl, .ty _, .base (.str z), kit_ty (by decide +kernel), true, rfl, iteT ?_⟩
      refine ⟨_, rfl, _, _, _, _, true, rfl, .ty _, .base (.str z), kit_ty (by decide +kernel), true, rfl, iteT ?_⟩
      refine ⟨_, rfl, _, rfl, rfl, ?_⟩
      rw [decide_eq_true rfl]
      exact sameQ
    | @lst a xs ds hA aA =>
      cases hy with
      | @lst b ys _ hB aB =>
      cases n with
      | zero => exact hd.elim
      | succ n =>
      obtain ⟨hlen, hall⟩ := hd
      obtain ⟨m, em, rfl⟩ := hn.resolve_left (by simp)
      have em : n = m := Nat.succ.inj em
      subst em
      have lx := DpAll.length aA
      have ly := DpAll.length aB
      refine ⟨_, rfl, rfl, _, rfl, iteF ?_⟩
      refine ⟨_, rfl, _, _, _, _, false, rfl, .ty _, tyL hB, kit_ty (by decide +kernel), false, rfl, iteF ?_⟩
      refine ⟨_, rfl, _, _, _, _, false, rfl, .ty _, tyL hB, kit_ty (by decide +kernel), false, rfl, iteF ?_⟩
      refine ⟨_, rfl, _, _, _, _, false, rfl, .ty _, tyL hB, kit_ty (by decide +kernel), false, rfl, iteF ?_⟩
      refine ⟨_, rfl, _, _, _, _, false, rfl, .ty _, tyL hB, kit_ty (by decide +kernel), _, rfl, _, _, _, _, false, rfl, .ty _, tyL hA, kit_ty (by decide +kernel), rfl, _, rfl, iteF ?_⟩
      refine ⟨_, rfl, _, _, _, _, true, rfl, .ty _, tyL hB, kit_ty (by decide +kernel), _, rfl, _, _, _, _, true, rfl, .ty _, tyL hA, kit_ty (by decide +kernel), rfl, _, rfl, iteF ?_⟩
      refine ⟨_, rfl, a, _, rfl, .inl hA, _, rfl, b, _, rfl, .inl hB, rfl, true, ?_, iteT ?_⟩
      · rw [lx, ly]
        rw [decide_eq_true rfl]
      refine ⟨_, rfl, b, _, rfl, .inl hB, (ys.length : Int), rfl, by omega, by omega, fun D hD => ?_⟩
      refine lc_range (lo := 0) (n := (ys.length : Int).toNat) (fun i H' => Same H H' ∧ H' D = some (.lst (List.replicate i (V.bl true)))) ⟨same_new hD, upd_same⟩ ?_ ?_
      · rintro i H' hi ⟨s1, hD'⟩
        have hi2 : i < ds.length := by
          rw [Int.toNat_natCast] at hi
          omega
        obtain ⟨vx, d1, ex1, ed1, r1⟩ := DpAll.get aA hi2
        obtain ⟨vy, d2, ey2, ed2, r2⟩ := DpAll.get aB hi2
        have e12 : d1 = d2 := Option.some.inj (ed1.symm.trans ed2)
        subst e12
        refine ⟨rfl, tYes_of (iteT ?_)⟩
        have ei : (0 : Int) + (i : Int) = ((i : Nat) : Int) := by omega
        refine ⟨_, rfl, _, rfl, .inl ⟨a, _, _, _, rfl, rfl, s1.seq hA, by rw [ei]; exact atI_nat ex1, ?_⟩⟩
        refine ⟨_, rfl, _, rfl, .inl ⟨b, _, _, _, rfl, rfl, s1.seq hB, by rw [ei]; exact atI_nat ey2, ?_⟩⟩
        refine ⟨_, _, d1, rfl, Dp.same s1 r1, Dp.same s1 r2, hall d1 (List.mem_of_getElem? ed1), fun H2 s2 => ?_⟩
        refine ⟨_, s2 _ _ hD', by rw [List.length_replicate]; exact small1000 (by omega), same_seqT_upd (s1.trans s2) hD (s2 _ _ hD'), ?_⟩
        rw [upd_same, List.replicate_succ']
      · rintro H' ⟨s1, hD'⟩
        refine ⟨D, List.replicate (ys.length : Int).toNat true, rfl, ?_, ?_⟩
        · rw [List.map_replicate]
          exact SqL.of hD'
        · have e : (List.replicate (ys.length : Int).toNat true).all id = true := by simp
          rw [e]
          exact q H' s1
    | @tup a xs ds hA aA =>
      cases hy with
      | @tup b ys _ hB aB =>
      cases n with
      | zero => exact hd.elim
      | succ n =>
      obtain ⟨hlen, hall⟩ := hd
      obtain ⟨m, em, rfl⟩ := hn.resolve_left (by simp)
      have em : n = m := Nat.succ.inj em
      subst em
      have lx := DpAll.length aA
      have ly := DpAll.length aB
      refine ⟨_, rfl, rfl, _, rfl, iteF ?_⟩
      refine ⟨_, rfl, _, _, _, _, false, rfl, .ty _, tyT hB, kit_ty (by decide +kernel), false, rfl, iteF ?_⟩
      refine ⟨_, rfl, _, _, _, _, false, rfl, .ty _, tyT hB, kit_ty (by decide +kernel), false, rfl, iteF ?_⟩
      refine ⟨_, rfl, _, _, _, _, false, rfl, .ty _, tyT hB, kit_ty (by decide +kernel), false, rfl, iteF ?_⟩
      refine ⟨_, rfl, _, _, _, _, true, rfl, .ty _, tyT hB, kit_ty (by decide +kernel), _, rfl, _, _, _, _, true, rfl, .ty _, tyT hA, kit_ty (by decide +kernel), rfl, _, rfl, iteF ?_⟩
      refine ⟨_, rfl, _, _, _, _, false, rfl, .ty _, tyT hB, kit_ty (by decide +kernel), _, rfl, _, _, _, _, false, rfl, .ty _, tyT hA, kit_ty (by decide +kernel), rfl, _, rfl, iteF ?_⟩
      refine ⟨_, rfl, a, _, rfl, .inr hA, _, rfl, b, _, rfl, .inr hB, rfl, true, ?_, iteT ?_⟩
      · rw [lx, ly]
        rw [decide_eq_true rfl]
      refine ⟨_, rfl, b, _, rfl, .inr hB, (ys.length : Int), rfl, by omega, by omega, fun D hD => ?_⟩
      refine lc_range (lo := 0) (n := (ys.length : Int).toNat) (fun i H' => Same H H' ∧ H' D = some (.lst (List.replicate i (V.bl true)))) ⟨same_new hD, upd_same⟩ ?_ ?_
      · rintro i H' hi ⟨s1, hD'⟩
        have hi2 : i < ds.length := by
          rw [Int.toNat_natCast] at hi
          omega
        obtain ⟨vx, d1, ex1, ed1, r1⟩ := DpAll.get aA hi2
        obtain ⟨vy, d2, ey2, ed2, r2⟩ := DpAll.get aB hi2
        have e12 : d1 = d2 := Option.some.inj (ed1.symm.trans ed2)
        subst e12
        refine ⟨rfl, tYes_of (iteT ?_)⟩
        have ei : (0 : Int) + (i : Int) = ((i : Nat) : Int) := by omega
        refine ⟨_, rfl, _, rfl, .inr (.inl ⟨a, _, _, _, rfl, rfl, Same.seqT s1 hA, by rw [ei]; exact atI_nat ex1, ?_⟩)⟩
        refine ⟨_, rfl, _, rfl, .inr (.inl ⟨b, _, _, _, rfl, rfl, Same.seqT s1 hB, by rw [ei]; exact atI_nat ey2, ?_⟩)⟩
        refine ⟨_, _, d1, rfl, Dp.same s1 r1, Dp.same s1 r2, hall d1 (List.mem_of_getElem? ed1), fun H2 s2 => ?_⟩
        refine ⟨_, s2 _ _ hD', by rw [List.length_replicate]; exact small1000 (by omega), same_seqT_upd (s1.trans s2) hD (s2 _ _ hD'), ?_⟩
        rw [upd_same, List.replicate_succ']
      · rintro H' ⟨s1, hD'⟩
        refine ⟨D, List.replicate (ys.length : Int).toNat true, rfl, ?_, ?_⟩
        · rw [List.map_replicate]
          exact SqL.of hD'
        · have e : (List.replicate (ys.length : Int).toNat true).all id = true := by simp
          rw [e]
          exact q H' s1
  intro n
  induction n with
  | zero => exact run 0 (fun _ _ _ _ => False) (fun _ _ _ _ h => h) (.inl rfl) (F.ok sc__law_like (fun _ _ _ _ h => h.elim) (fun _ _ _ _ _ _ _ _ _ h => h.elim))
  | succ n ih => exact run (n + 1) (spLike K n) (fun _ _ _ _ h => h) (.inr ⟨n, rfl, rfl⟩) ih

/-! ## _law_why -/
/-- what _law_why makes of its question: the told value and an empty text, or None and the refusal's word, in a new tuple -/
def TTwhy (K : PySem.W.Frag) (CW : Addr) : (XK → Hp → VK → Prop) → Hp → VK → Prop := fun tl H Q => ∀ (E : XK) (R : VK),
  (∀ (C dd : Addr) (w : Str) (H' : Hp), ErrIs K CW C → H' dd = some (.xd [("word", .str w)]) → (∀ p, H' p = none → Q (.ref p) (upd H' p (.tup [.non, .str w]))) → E (.ref C) (some dd) H') →
  (∀ (v : V) (H' : Hp), (∀ p, H' p = none → Q (.ref p) (upd H' p (.tup [v, .str ""]))) → R v H') → tl E H R
theorem why_asks {X : Cx} {K : PySem.W.Frag} {CW CM : Addr} (hK : X.K = K) {g : Addr} {cdg : Value} {q : Str} (mW : X.mg "WebError" = some (.ref CW)) (mM : X.mg "Missing" = some (.ref CM)) :
    LamX.AsksOf X ["_law_ask", "_law_told", "_law_word", "e"] "_law_why" (defScope s__law_why) g cdg (defBody s__law_why) "_law_ask" q (TTwhy K CW) := by
  subst hK
  intro f c' s H Q tl act hc h
  have nW : Names (cxOf C8.CX0 X.prog X.w X.K X.mg X.base ["_law_ask", "_law_told", "_law_word", "e"] "_law_why" (defScope s__law_why) g cdg X.A X.stack s H C8.E0).nox "WebError" (.ref CW) := ⟨rfl, by decide, .inl mW⟩
  have nM : Names (cxOf C8.CX0 X.prog X.w X.K X.mg X.base ["_law_ask", "_law_told", "_law_word", "e"] "_law_why" (defScope s__law_why) g cdg X.A X.stack s H C8.E0).nox "Missing" (.ref CM) := ⟨rfl, by decide, .inl mM⟩
  refine ⟨_, pss_cons (ps_set (i := 1) sc__law_why.nd rfl (Or.inl rfl) pe_non) (pss_cons (ps_set (i := 2) sc__law_why.nd rfl (Or.inl rfl) pe_str) (pss_cons
    (ps_try_clauses (X := (cxOf C8.CX0 X.prog X.w X.K X.mg X.base ["_law_ask", "_law_told", "_law_word", "e"] "_law_why" (defScope s__law_why) g cdg X.A X.stack s H C8.E0).nox) (i := 3) (n := "e") (W0 := fun _ _ _ _ => False)
      (tb := fun W => tAsg (fun σ H Q => σ[0]? = some (some (.ref f)) ∧ H c' = some (LamX.CodeO c' q) ∧ tl (WE W σ) H Q) (gName 1))
      rfl rfl sc__law_why.nd rfl rfl takes0 (fun W pn xe tk _ => pss_one (ps_set (i := 1) sc__law_why.nd rfl (Or.inl rfl) (act W pn xe _ _ tk)))
      (.cons nW (fun a oe cls d pn hz hf => pss_one (ps_set (i := 2) sc__law_why.nd rfl (Or.inl rfl) (pe_errF hz hf (pv 3)))) (.cons nM (fun a oe cls d pn hz hf => pss_one (ps_set (i := 2) sc__law_why.nd rfl (Or.inl rfl) (pe_errF hz hf (pv 3)))) .nil)))
    (pss_one (ps_ret (pe_tup (pa_cons (pv 1) (pa_cons (pv 2) pa_nil))))))), ?_⟩
  refine ⟨rfl, hc, h _ _ (fun C dd w H' hC hd k => ?_) (fun v H' k => ?_)⟩
  · refine ⟨true, hC.te, fun _ a na => ?_, fun z => Bool.noConfusion z⟩
    refine ⟨_, rfl, rfl, C, dd, _, _, rfl, hC.xf, hC.noW, rfl, hd, rfl, ?_⟩
    exact ⟨_, rfl, _, rfl, (by show 2 ≤ sizeLine; decide), fun p hp => k p hp⟩
  · exact ⟨_, rfl, _, rfl, (by show 2 ≤ sizeLine; decide), fun p hp => k p hp⟩

/-! ## a law that asks by lambdas -/
/-- _law_why as it stands at the top -/
structure WhyAt (K : PySem.W.Frag) (mg : Str → Option Value) (g : Addr) (oc : Value) (od : Option Addr) (kV doc pm : Value) (an : Option Addr) (cdv ct : Value) (osl : Array (Option Value)) : Prop where
  m : mg "_law_why" = some (.ref g)
  k : PySem.W.keepIn K (.ref g) = true
  l : K.lookup g = some ⟨oc, od, .func (PySem.W.fnOf "_law_why" "_law_why" (defArgs s__law_why) (defBody s__law_why) (defScope s__law_why) .none kV doc pm an cdv ct), osl⟩
  c : PySem.W.codeIn K cdv "_law_why" = true
  b : Binds K (PySem.W.fnOf "_law_why" "_law_why" (defArgs s__law_why) (defBody s__law_why) (defScope s__law_why) .none kV doc pm an cdv ct) ["_law_ask"] []
abbrev qLam : Str := "law.<locals>.<lambda>"
def spLawT (K : PySem.W.Frag) (PT : Addr) : Sp := fun vs H Q _ => ∃ (a : Addr) (ns : List Int), vs = [.ref a] ∧ SqL K H a (ns.map V.int) ∧ H PT = some (.tbl #[]) ∧ ∀ H', Q (.bl true) H'
theorem len_law {K PT vs H Q E} (h : spLawT K PT vs H Q E) : vs.length = (["_law_script"] : List Str).length := by
  obtain ⟨f, t, rfl, _⟩ := h
  rfl
/-- what a turn keeps -/
structure Here (box l : Addr) (T : List (Addr × Str)) (H : Hp) : Prop where
  box : BoxAt H box l
  tab : LamX.Tabs T H
theorem Here.same {box l : Addr} {T : List (Addr × Str)} {H H' : Hp} (h : Here box l T H) (s : Same H H') : Here box l T H' := ⟨h.box.same s, h.tab.ext s⟩
theorem Here.stp {box l : Addr} {T : List (Addr × Str)} {H H' : Hp} (h : Here box l T H) (s : Stp box l H H') : Here box l T H' := ⟨s.box, Tabs.keep h.tab h.box s.keep⟩
theorem Here.extN {box l : Addr} {T : List (Addr × Str)} {H H' : Hp} (h : Here box l T H) (s : LamX.ExtN H H') (t : LamX.Tabs T H') : Here box l T H' := ⟨h.box.extN s, t⟩
theorem SqT.extN {K : PySem.W.Frag} {H H' : Hp} {a : Addr} {xs : List V} (h : SqT K H a xs) (e : LamX.ExtN H H') : SqT K H' a xs := by
  rcases h with (h | ⟨o, h⟩) | h
  · exact .inl (.inl (e _ _ h fun _ z => by cases z))
  · exact .inl (.inr ⟨o, e _ _ h fun _ z => by cases z⟩)
  · exact .inr h
theorem SqT.keep {K : PySem.W.Frag} {H H' : Hp} {box l a : Addr} {xs : List V} (h : SqT K H a xs) (hb : BoxAt H box l) (e : Keep box H H') : SqT K H' a xs := by
  obtain ⟨_, _, _, _, _, b1, _⟩ := hb
  rcases h with (h | ⟨o, h⟩) | h
  · refine .inl (.inl (e _ _ (fun z => ?_) h))
    rw [z, b1] at h
    cases h
  · refine .inl (.inr ⟨o, e _ _ (fun z => ?_) h⟩)
    rw [z, b1] at h
    cases h
  · exact .inr h
theorem gName_go {i : Nat} {v : V} {σ : L2.St} {H : Hp} {Q : L2.St → Hp → Prop} (h : Q (σ.set i (some v)) H) : gName i v σ H Q := h
theorem nx_go {t u : TS} {D : Ends} {rt : VK} {bk ct : L2.St → Hp → Prop} {σ : L2.St} {H : Hp} (h : t { D with nx := u D } σ H) : Ends.nx { nx := tSeq t u D, rt := rt, bk := bk, ct := ct } σ H := h
theorem ifS_go {c : TT} {t u : TS} {D : Ends} {σ : L2.St} {H : Hp} (h : c σ H fun b H1 => if b = true then t D σ H1 else u D σ H1) : tIfS c t u D σ H := h
theorem tAsg_mid {te : TE} {g : TG} {D : Ends} {σ : L2.St} {H : Hp} (M : V → Hp → Prop) (h : ∀ v H', M v H' → g v σ H' D.nx) (k : (∀ v H', M v H' → g v σ H' D.nx) → te σ H (fun v H' => g v σ H' D.nx)) : tAsg te g D σ H := k h
theorem dp_num {K : PySem.W.Frag} {H : Hp} {v : V} {q : Pr} (h : NumV K H v q) : Dp K H v (.tuple [.int q.1, .int q.2]) := by
  obtain ⟨p, rfl, h⟩ := h
  exact .tup h (.cons (.int _) (.cons (.int _) .nil))
theorem f97 {f : Int} (hf : IsF f) : f ≤ 97 := by
  by_cases h0 : f = 0
  · omega
  · have := hf.two h0
    omega

/-! ## the law of k02 -/
def OptV (K : PySem.W.Frag) (H : Hp) (u : V) : Option Pr → Prop
  | none => u = .non
  | some q => NumV K H u q
theorem OptV.map {K : PySem.W.Frag} {H H' : Hp} {u : V} {o : Option Pr} (g : ∀ q, NumV K H u q → NumV K H' u q) (h : OptV K H u o) : OptV K H' u o := by
  cases o with
  | none => exact h
  | some q => exact g q h
/-- what _law_why tells: a tuple of a number or None, and a text -/
def EV (K : PySem.W.Frag) (H : Hp) (v : V) (x : Option Pr × Str) : Prop := ∃ (a : Addr) (u : V), v = .ref a ∧ SqT K H a [u, .str x.2] ∧ OptV K H u x.1
theorem EV.same {K : PySem.W.Frag} {H H' : Hp} {v : V} {x : Option Pr × Str} (h : EV K H v x) (s : Same H H') : EV K H' v x := by
  obtain ⟨a, u, h1, h2, h3⟩ := h
  exact ⟨a, u, h1, Same.seqT s h2, h3.map fun q n => n.same s⟩
theorem EV.extN {K : PySem.W.Frag} {H H' : Hp} {v : V} {x : Option Pr × Str} (h : EV K H v x) (s : LamX.ExtN H H') : EV K H' v x := by
  obtain ⟨a, u, h1, h2, h3⟩ := h
  exact ⟨a, u, h1, SqT.extN h2 s, h3.map fun q n => n.extN s⟩
theorem SqT.put {K : PySem.W.Frag} {H : Hp} {D a : Addr} {xs ys : List V} {o : HO} (h : SqT K H a ys) (hD : H D = some (.lst xs)) : SqT K (upd H D o) a ys := by
  have ne : ∀ u, H a = some u → (∀ z, u ≠ .lst z) → a ≠ D := fun u hu hn e => by
    rw [e, hD] at hu
    exact hn _ (Option.some.inj hu).symm
  rcases h with (h | ⟨o', h⟩) | h
  · refine .inl (.inl ?_)
    rw [upd_ne (ne _ h fun z e => by cases e)]
    exact h
  · refine .inl (.inr ⟨o', ?_⟩)
    rw [upd_ne (ne _ h fun z e => by cases e)]
    exact h
  · exact .inr h
theorem NumV.putL {K : PySem.W.Frag} {H : Hp} {D : Addr} {xs : List V} {o : HO} {v : V} {q : Pr} (h : NumV K H v q) (hD : H D = some (.lst xs)) : NumV K (upd H D o) v q := by
  obtain ⟨p, h1, h2⟩ := h
  exact ⟨p, h1, SqT.put h2 hD⟩
theorem EV.put {K : PySem.W.Frag} {H : Hp} {D : Addr} {xs : List V} {o : HO} {v : V} {x : Option Pr × Str} (h : EV K H v x) (hD : H D = some (.lst xs)) : EV K (upd H D o) v x := by
  obtain ⟨a, u, h1, h2, h3⟩ := h
  exact ⟨a, u, h1, SqT.put h2 hD, h3.map fun q n => n.putL hD⟩
theorem EV.new {K : PySem.W.Frag} {H : Hp} {p : Addr} {u : V} {x : Option Pr × Str} (h : OptV K H u x.1) (hp : H p = none) : EV K (upd H p (.tup [u, .str x.2])) (.ref p) x :=
  ⟨p, u, rfl, SqT.of upd_same, h.map fun q n => n.same (same_new hp)⟩
def evD (x : Option Pr × Str) : PyData := .tuple [match x.1 with | none => .none | some q => .tuple [.int q.1, .int q.2], .str x.2]
theorem EV.dp {K : PySem.W.Frag} {H : Hp} {v : V} {x : Option Pr × Str} (h : EV K H v x) : Dp K H v (evD x) := by
  obtain ⟨a, u, rfl, h2, h3⟩ := h
  obtain ⟨o, w⟩ := x
  cases o with
  | none =>
    cases (show u = .non from h3)
    exact .tup h2 (.cons .non (.cons (.str _) .nil))
  | some q => exact .tup h2 (.cons (dp_num h3) (.cons (.str _) .nil))
theorem ok_ev (x y z t : Option Pr × Str) : okD 3 (.list [evD x, evD y, evD z, evD t]) := by
  have e : ∀ x, okD 2 (evD x) := fun x => by
    obtain ⟨o, w⟩ := x
    cases o <;> simp [evD, okD]
  refine ⟨by show 4 ≤ 1000; decide, fun d hd => ?_⟩
  simp only [List.mem_cons, List.not_mem_nil, or_false] at hd
  rcases hd with h | h | h | h <;> rw [h] <;> exact e _
theorem Here.put {box l D : Addr} {T : List (Addr × Str)} {H : Hp} {xs ys : List V} (h : Here box l T H) (hD : H D = some (.lst xs)) (n1 : D ≠ box) (n2 : D ≠ l) : Here box l T (upd H D (.lst ys)) := by
  obtain ⟨⟨ns, i, x, s, c, b1, b2, b3⟩, t⟩ := h
  refine ⟨⟨ns, i, x, s, c, ?_, ?_, b3⟩, fun p hp => ?_⟩
  · rw [upd_ne (fun e => n1 e.symm)]
    exact b1
  · rw [upd_ne (fun e => n2 e.symm)]
    exact b2
  · obtain ⟨ps, h1, h2, h3⟩ := t p hp
    refine ⟨ps, ?_, h2, fun pos cv hc => ?_⟩
    · rw [upd_ne (fun e => by rw [e, hD] at h1; cases h1)]
      exact h1
    · obtain ⟨c2, e1, e2⟩ := h3 pos cv hc
      refine ⟨c2, e1, ?_⟩
      rw [upd_ne (fun e => by
        rw [e, hD] at e2
        have z := Option.some.inj e2
        unfold LamX.CodeO at z
        cases z)]
      exact e2
def X2 (g : Int → Pr → Pr → Pr) (f : Int) (p q : Pr) : Option Pr × Str := if (isNB f p && isNB f q) = true then (some (g f p q), "") else (none, "badnumber")
def XL (f : Int) (p : Pr) : Option Pr × Str := if isNB f p = true then (some (negN f p), "") else (none, "badnumber")
def XO (f : Int) (p : Pr) : Option Pr × Str := if isNB f p = true then (if p = (0, 1) then (none, "nought") else (some (invN f p), "")) else (none, "badnumber")
theorem zero_iff {f : Int} {p : Pr} (h : isNB f p = true) : p.1 = 0 ↔ p = (0, 1) := by
  constructor
  · intro e
    rcases isNB_iff.mp h with ⟨_, h1, h2⟩ | ⟨_, h1, _⟩
    · have h2 : Nat.gcd p.1.natAbs p.2.natAbs = 1 := h2
      rw [e] at h2
      have h3 : p.2.natAbs = 1 := by simpa using h2
      exact Prod.ext e (by show p.2 = 1; omega)
    · exact Prod.ext e h1
  · intro e
    rw [e]
section
variable {K : PySem.W.Frag} {CW : Addr} {T : List (Addr × Str)} {σ : L2.St} {H : Hp} {R : VK} {f : Int} {v1 v2 : V} {p q : Pr}
theorem lam_ext {H1 H' : Hp} {z : Addr} {o : HO} (e1 : LamX.ExtN H H1) (t1 : LamX.Tabs T H1) (s : Same H1 H') (hz : H' z = none) : LamX.ExtN H (upd H' z o) ∧ LamX.Tabs T (upd H' z o) :=
  ⟨e1.trans (LamX.ExtN.of (s.trans (same_new hz))), t1.ext (s.trans (same_new hz))⟩
theorem lam_two {g : Int → Pr → Pr → Pr} (hT : LamX.Tabs T H) (h3 : σ[3]? = some (some (.int f))) (h5 : σ[5]? = some (some v1)) (h6 : σ[6]? = some (some v2)) (hf : IsF f) (n1 : NumV K H v1 p) (n2 : NumV K H v2 q) (m1 : Sm 4000 p) (m2 : Sm 4000 q)
    (k : ∀ v H', LamX.ExtN H H' → LamX.Tabs T H' → EV K H' v (X2 g f p q) → R v H') :
    LamX.tLam T (TTwhy K CW) (fun E => tCall (spTwoX K CW g) [] E (tCons (tVar 3) (tCons (tVar 5) (tCons (tVar 6) tNil)))) σ H R := by
  refine ⟨hT, fun H1 e1 t1 E R' hE hR => ?_⟩
  refine ⟨_, h3, _, h5, _, h6, f, v1, v2, p, q, rfl, n1.extN e1, n2.extN e1, m1, m2, fun _ g1 g2 => fun H' u s hu => hR u H' (fun z hz => ?_), fun _ hb => fun C d H' hC s hd => hE C d _ H' hC hd (fun z hz => ?_), fun hx => absurd hf hx⟩
  · have hl := lam_ext (o := .tup [u, .str ""]) e1 t1 s hz
    refine k _ _ hl.1 hl.2 ?_
    have e : X2 g f p q = ((some (g f p q), "") : Option Pr × Str) := by
      unfold X2
      rw [g1, g2]
      rfl
    rw [e]
    exact EV.new (x := ((some (g f p q), "") : Option Pr × Str)) hu hz
  · have hl := lam_ext (o := .tup [.non, .str "badnumber"]) e1 t1 s hz
    refine k _ _ hl.1 hl.2 ?_
    have e : X2 g f p q = ((none, "badnumber") : Option Pr × Str) := by
      unfold X2
      rw [hb]
      rfl
    rw [e]
    exact EV.new (x := ((none, "badnumber") : Option Pr × Str)) rfl hz
theorem lam_less (hT : LamX.Tabs T H) (h3 : σ[3]? = some (some (.int f))) (h5 : σ[5]? = some (some v1)) (hf : IsF f) (n1 : NumV K H v1 p) (m1 : Sm 4000 p)
    (k : ∀ v H', LamX.ExtN H H' → LamX.Tabs T H' → EV K H' v (XL f p) → R v H') :
    LamX.tLam T (TTwhy K CW) (fun E => tCall (spLessX K CW) [] E (tCons (tVar 3) (tCons (tVar 5) tNil))) σ H R := by
  refine ⟨hT, fun H1 e1 t1 E R' hE hR => ?_⟩
  refine ⟨_, h3, _, h5, f, v1, p, rfl, n1.extN e1, m1, fun _ g1 => fun H' u s hu => hR u H' (fun z hz => ?_), fun _ hb => fun C d H' hC s hd => hE C d _ H' hC hd (fun z hz => ?_), fun hx => absurd hf hx⟩
  · have hl := lam_ext (o := .tup [u, .str ""]) e1 t1 s hz
    refine k _ _ hl.1 hl.2 ?_
    have e : XL f p = ((some (negN f p), "") : Option Pr × Str) := by
      unfold XL
      rw [g1]
      rfl
    rw [e]
    exact EV.new (x := ((some (negN f p), "") : Option Pr × Str)) hu hz
  · have hl := lam_ext (o := .tup [.non, .str "badnumber"]) e1 t1 s hz
    refine k _ _ hl.1 hl.2 ?_
    have e : XL f p = ((none, "badnumber") : Option Pr × Str) := by
      unfold XL
      rw [hb]
      rfl
    rw [e]
    exact EV.new (x := ((none, "badnumber") : Option Pr × Str)) rfl hz
theorem lam_over (hT : LamX.Tabs T H) (h3 : σ[3]? = some (some (.int f))) (h5 : σ[5]? = some (some v1)) (hf : IsF f) (n1 : NumV K H v1 p) (m1 : Sm 4000 p)
    (k : ∀ v H', LamX.ExtN H H' → LamX.Tabs T H' → EV K H' v (XO f p) → R v H') :
    LamX.tLam T (TTwhy K CW) (fun E => tCall (spOverX K CW) [] E (tCons (tVar 3) (tCons (tVar 5) tNil))) σ H R := by
  refine ⟨hT, fun H1 e1 t1 E R' hE hR => ?_⟩
  refine ⟨_, h3, _, h5, f, v1, p, rfl, n1.extN e1, m1, fun _ g1 g0 => fun H' u s hu => hR u H' (fun z hz => ?_), fun _ g1 g0 => fun C d H' hC s hd => hE C d _ H' hC hd (fun z hz => ?_), fun _ hb => fun C d H' hC s hd => hE C d _ H' hC hd (fun z hz => ?_), fun hx => absurd hf hx⟩
  · have hl := lam_ext (o := .tup [u, .str ""]) e1 t1 s hz
    refine k _ _ hl.1 hl.2 ?_
    have e : XO f p = ((some (invN f p), "") : Option Pr × Str) := by
      unfold XO
      rw [if_pos g1, if_neg (fun e => g0 ((zero_iff g1).mpr e))]
    rw [e]
    exact EV.new (x := ((some (invN f p), "") : Option Pr × Str)) hu hz
  · have hl := lam_ext (o := .tup [.non, .str "nought"]) e1 t1 s hz
    refine k _ _ hl.1 hl.2 ?_
    have e : XO f p = ((none, "nought") : Option Pr × Str) := by
      unfold XO
      rw [if_pos g1, if_pos ((zero_iff g1).mp g0)]
    rw [e]
    exact EV.new (x := ((none, "nought") : Option Pr × Str)) rfl hz
  · have hl := lam_ext (o := .tup [.non, .str "badnumber"]) e1 t1 s hz
    refine k _ _ hl.1 hl.2 ?_
    have e : XO f p = ((none, "badnumber") : Option Pr × Str) := by
      unfold XO
      rw [hb]
      rfl
    rw [e]
    exact EV.new (x := ((none, "badnumber") : Option Pr × Str)) rfl hz
theorem lst_go2 {ta tb : TE} {g : TG} {D : Ends} (h : ta σ H fun x H1 => tb σ H1 fun y H2 => ([x, y] : List V).length ≤ sizeLine ∧ ∀ p, H2 p = none → g (.ref p) σ (upd H2 p (.lst [x, y])) D.nx) : tAsg (tLst (tCons ta (tCons tb tNil))) g D σ H := h
theorem cat_go2 {i : Nat} {ta tb : TE} {g : TG} {D : Ends} {v : V} (hi : σ[i]? = some (some v)) (h : ta σ H fun x H1 => tb σ H1 fun y H2 => ([x, y] : List V).length ≤ sizeLine ∧ ∀ p, H2 p = none → rCat v (.ref p) (upd H2 p (.lst [x, y])) fun z H3 => g z σ H3 D.nx) :
    tAsg (tOp rCat (tVar i) (tLst (tCons ta (tCons tb tNil)))) g D σ H := ⟨_, hi, h⟩
end
theorem odd_bad {f : Int} (h : f ∈ ([1, 9, 98, -3] : List Int)) : ¬ IsF f := by
  intro hf
  have hf := isFB_iff.mpr hf
  have key : ∀ g ∈ ([1, 9, 98, -3] : List Int), isFB g = false := by decide +kernel
  rw [key f h] at hf
  cases hf
theorem eqv_prP (p q : Pr) : PyData.eqv (.tuple [.int p.1, .int p.2]) (.tuple [.int q.1, .int q.2]) = decide (p = q) := by
  obtain ⟨a, b⟩ := p
  obtain ⟨c, d⟩ := q
  show ((a == c) && ((b == d) && true)) = decide ((a, b) = (c, d))
  by_cases h : a = c
  · by_cases h2 : b = d
    · subst h; subst h2; simp
    · simp [h2]
  · simp [h]
theorem eq_valP {K : PySem.W.Frag} {H : Hp} {x y : V} {p q : Pr} {Q : VK} (hx : NumV K H x p) (hy : NumV K H y q) (k : Q (.bl (decide (p = q))) H) : rEqD K x y H Q :=
  ⟨_, _, dp_num hx, dp_num hy, rfl, rfl, by rw [eqv_prP]; exact k⟩
/-- what stands while the due list is changed -/
structure S9 (K : PySem.W.Frag) (box l : Addr) (T : List (Addr × Str)) (D : Addr) (gs : List V) (w1 w2 : V) (r1 r2 : Pr) (H : Hp) : Prop where
  here : Here box l T H
  n1 : NumV K H w1 r1
  n2 : NumV K H w2 r2
  good : H D = some (.lst gs)
section
variable {K : PySem.W.Frag} {box l D pd : Addr} {T : List (Addr × Str)} {gs xs ys : List V} {w1 w2 : V} {r1 r2 : Pr} {H H' : Hp}
theorem S9.same (h : S9 K box l T D gs w1 w2 r1 r2 H) (s : Same H H') : S9 K box l T D gs w1 w2 r1 r2 H' := ⟨h.here.same s, h.n1.same s, h.n2.same s, s _ _ h.good⟩
theorem S9.put (h : S9 K box l T D gs w1 w2 r1 r2 H) (e : H pd = some (.lst xs)) (b : pd ≠ box) (c : pd ≠ l) (d : D ≠ pd) : S9 K box l T D gs w1 w2 r1 r2 (upd H pd (.lst ys)) :=
  ⟨h.here.put e b c, h.n1.putL e, h.n2.putL e, by rw [upd_ne d]; exact h.good⟩
theorem S9.extN (h : S9 K box l T D gs w1 w2 r1 r2 H) (s : LamX.ExtN H H') (t : LamX.Tabs T H') : S9 K box l T D gs w1 w2 r1 r2 H' := ⟨h.here.extN s t, h.n1.extN s, h.n2.extN s, s _ _ h.good (fun _ z => by cases z)⟩
end
theorem X2_yes {g : Int → Pr → Pr → Pr} {f : Int} {p q : Pr} (h1 : isNB f p = true) (h2 : isNB f q = true) : X2 g f p q = ((some (g f p q), "") : Option Pr × Str) := by
  unfold X2
  rw [h1, h2]
  rfl
theorem X2_no {g : Int → Pr → Pr → Pr} {f : Int} {p q : Pr} (h : ¬ (isNB f p && isNB f q) = true) : X2 g f p q = ((none, "badnumber") : Option Pr × Str) := if_neg h
theorem XL_yes {f : Int} {p : Pr} (h : isNB f p = true) : XL f p = ((some (negN f p), "") : Option Pr × Str) := if_pos h
theorem XL_no {f : Int} {p : Pr} (h : ¬ isNB f p = true) : XL f p = ((none, "badnumber") : Option Pr × Str) := if_neg h
theorem XO_no {f : Int} {p : Pr} (h : ¬ isNB f p = true) : XO f p = ((none, "badnumber") : Option Pr × Str) := if_neg h
theorem XO_yes {f : Int} {p : Pr} (h : isNB f p = true) (h0 : p ≠ (0, 1)) : XO f p = ((some (invN f p), "") : Option Pr × Str) := by
  unfold XO
  rw [if_pos h, if_neg h0]
theorem XO_nought {f : Int} {p : Pr} (h : isNB f p = true) (h0 : p = (0, 1)) : XO f p = ((none, "nought") : Option Pr × Str) := by
  unfold XO
  rw [if_pos h, if_pos h0]
theorem law_ok {P : Program} {w : World} {K : PySem.W.Frag} {mg : Str → Option Value} {base : Heap} {f cL PT CW CM g : Addr} {oc oc2 kV doc pm ct kV2 doc2 pm2 cdv2 ct2 : Value} {od an od2 an2 : Option Addr} {osl osl2 : Array (Option Value)}
    (lk : K.lookup f = some ⟨oc, od, .func (PySem.W.fnOf "law" "law" (defArgs s_law) (defBody s_law) (defScope s_law) .none kV doc pm an (.ref cL) ct), osl⟩) (hcd : PySem.W.codeIn K (.ref cL) "law" = true) (TB : LamX.TabB base mg cL PT) (B : Bn mg)
    (W : WhyAt K mg g oc2 od2 kV2 doc2 pm2 an2 cdv2 ct2 osl2) (mW : mg "WebError" = some (.ref CW)) (mM : mg "Missing" = some (.ref CM)) {f__law_like : Addr} {fd__law_like : FuncData} (D__law_open : Def P w K mg base "_law_open" 1 ["_law_script"] (spOpen K)) (D__law_field : Def P w K mg base "_law_field" 3 ["_law_box"] (spField)) (D__law_great : Def P w K mg base "_law_great" 4 ["_law_box", "_law_field_here"] (spGreat K)) (D__law_draw : Def P w K mg base "_law_draw" 1 ["_law_box", "_law_many"] (spDraw)) (D__law_odd_pair : Def P w K mg base "_law_odd_pair" 3 ["_law_box", "_law_field_here"] (spOdd K)) (D__law_is_number : Def P w K mg base "_law_is_number" 2 ["_law_field_here", "_law_number_here"] (spLIsN K)) (D__law_why : True) (D__law_like : (∀ n, FnOk P w K mg base CX0 (n + 2) f__law_like fd__law_like ["_law_found", "_law_due"] (spLike K n)) ∧ mg "_law_like" = some (.ref f__law_like) ∧ PySem.W.keepIn K (.ref f__law_like) = true ∧ Binds K fd__law_like ["_law_found", "_law_due"] []) (D__law_plus : Def P w K mg base "_law_plus" 3 ["_law_field_here", "_law_one", "_law_other"] (spTwo K addN)) (D__law_times : Def P w K mg base "_law_times" 3 ["_law_field_here", "_law_one", "_law_other"] (spTwo K mulN)) (D__law_less : Def P w K mg base "_law_less" 1 ["_law_field_here", "_law_number_here"] (spOne K false negN)) (D__law_over : Def P w K mg base "_law_over" 3 ["_law_field_here", "_law_number_here"] (spOne K true invN)) (D_plus : DefX P w K mg base "plus" 4 ["field", "one", "other"] (spTwoX K CW addN)) (D_times : DefX P w K mg base "times" 4 ["field", "one", "other"] (spTwoX K CW mulN)) (D_less : DefX P w K mg base "less" 4 ["field", "number"] (spLessX K CW)) (D_over : DefX P w K mg base "over" 4 ["field", "number"] (spOverX K CW)) :
    FnOk P w K mg base CX0 8 f (PySem.W.fnOf "law" "law" (defArgs s_law) (defBody s_law) (defScope s_law) .none kV doc pm an (.ref cL) ct) ["_law_script"] (spLawT K PT) := by
  obtain ⟨f__law_open, fd__law_open, G__law_open, m__law_open, k__law_open, b__law_open⟩ := D__law_open
  obtain ⟨f__law_field, fd__law_field, G__law_field, m__law_field, k__law_field, b__law_field⟩ := D__law_field
  obtain ⟨f__law_great, fd__law_great, G__law_great, m__law_great, k__law_great, b__law_great⟩ := D__law_great
  obtain ⟨f__law_draw, fd__law_draw, G__law_draw, m__law_draw, k__law_draw, b__law_draw⟩ := D__law_draw
  obtain ⟨f__law_odd_pair, fd__law_odd_pair, G__law_odd_pair, m__law_odd_pair, k__law_odd_pair, b__law_odd_pair⟩ := D__law_odd_pair
  obtain ⟨f__law_is_number, fd__law_is_number, G__law_is_number, m__law_is_number, k__law_is_number, b__law_is_number⟩ := D__law_is_number
  obtain ⟨f__law_plus, fd__law_plus, G__law_plus, m__law_plus, k__law_plus, b__law_plus⟩ := D__law_plus
  obtain ⟨f__law_times, fd__law_times, G__law_times, m__law_times, k__law_times, b__law_times⟩ := D__law_times
  obtain ⟨f__law_less, fd__law_less, G__law_less, m__law_less, k__law_less, b__law_less⟩ := D__law_less
  obtain ⟨f__law_over, fd__law_over, G__law_over, m__law_over, k__law_over, b__law_over⟩ := D__law_over
  obtain ⟨f_plus, fd_plus, G_plus, m_plus, k_plus, b_plus⟩ := D_plus
  obtain ⟨f_times, fd_times, G_times, m_times, k_times, b_times⟩ := D_times
  obtain ⟨f_less, fd_less, G_less, m_less, k_less, b_less⟩ := D_less
  obtain ⟨f_over, fd_over, G_over, m_over, k_over, b_over⟩ := D_over
  have G__law_like := D__law_like.1 3
  have m__law_like := D__law_like.2.1
  have k__law_like := D__law_like.2.2.1
  have b__law_like := D__law_like.2.2.2
  refine fn_of lk hcd sc_law (fun vs H Q E h => len_law h) (fun A outer s H vs Q E hr hsp => ?_)
  obtain ⟨a, ns, rfl, hS, hT, q⟩ := hsp
  suffices ∃ t, PSs (cxOf CX0 P w K mg base ["_law_script", "_law_box", "_law_turn", "_law_field_here", "_law_pairs", "_law_one", "_law_other", "_law_pair", "_law_good", "_law_due", "_law_found", "_law_odd", "_law_words"] "law" (defScope s_law) f (.ref cL) A outer s H E).nox (defBody s_law) t ∧ t { nx := fun _ H' => Q .non H', rt := Q } (start ["_law_script", "_law_box", "_law_turn", "_law_field_here", "_law_pairs", "_law_one", "_law_other", "_law_pair", "_law_good", "_law_due", "_law_found", "_law_odd", "_law_words"] [.ref a]) H by
    obtain ⟨t, h1, h2⟩ := this
    exact ⟨t, h1.nox, h2⟩
  refine ⟨_, (pss_cons (ps_set (i := 1) sc_law.nd rfl (Or.inl rfl) (pe_call G__law_open (hr.mono (by omega)) (by rfl) m__law_open k__law_open b__law_open .nil pass0 (pa_cons (pv 0) pa_nil))) (pss_cons (ps_for PassesOwn.never rfl (pi_range1 (by rfl) B.range (pa_cons pe_int pa_nil)) (pg_name (i := 2) sc_law.nd rfl (Or.inl rfl)) (pss_cons (ps_set (i := 3) sc_law.nd rfl (Or.inr rfl) (pe_call G__law_field (hr.mono (by omega)) (by rfl) m__law_field k__law_field b__law_field .nil pass0 (pa_cons (pv 1) pa_nil))) (pss_cons (ps_set (i := 4) sc_law.nd rfl (Or.inl rfl) (pe_lst (pa_cons (pe_call G__law_great (hr.mono (by omega)) (by rfl) m__law_great k__law_great b__law_great .nil pass0 (pa_cons (pv 1) (pa_cons (pv 3) pa_nil))) (pa_cons (pe_call G__law_great (hr.mono (by omega)) (by rfl) m__law_great k__law_great b__law_great .nil pass0 (pa_cons (pv 1) (pa_cons (pv 3) pa_nil))) pa_nil)))) (pss_cons (ps_if (pt_cmpR op_eq (pe_call G__law_draw (hr.mono (by omega)) (by rfl) m__law_draw k__law_draw b__law_draw .nil pass0 (pa_cons (pv 1) (pa_cons pe_int pa_nil))) pe_int (nomark _)) (pss_one (ps_asg (pe_call G__law_odd_pair (hr.mono (by omega)) (by rfl) m__law_odd_pair k__law_odd_pair b__law_odd_pair .nil pass0 (pa_cons (pv 1) (pa_cons (pv 3) pa_nil))) (pg_sub (pv 4) (pe_call G__law_draw (hr.mono (by omega)) (by rfl) m__law_draw k__law_draw b__law_draw .nil pass0 (pa_cons (pv 1) (pa_cons pe_int pa_nil))) set_list))) pss_nil) (pss_cons (ps_asg (pv 4) (pg_unl (by rfl) (pgs_cons (pg_name (i := 5) sc_law.nd rfl (Or.inr rfl)) (pgs_cons (pg_name (i := 6) sc_law.nd rfl (Or.inr rfl)) pgs_nil)))) (pss_cons (ps_setLc (i := 8) (own := [("_law_pair", 7)]) (g := gName 7) (tt := tYes) rfl sc_law.nd rfl rfl (sw_true rfl rfl rfl (by decide +kernel)) (pi_list (pv 4)) (blkOk_by (N := ["_law_script", "_law_box", "_law_turn", "_law_field_here", "_law_pairs", "_law_one", "_law_other", "_law_pair", "_law_good", "_law_due", "_law_found", "_law_odd", "_law_words"]) (sc := defScope s_law) (by decide +kernel)) (fun _ _ _ _ _ => pg_name (i := 7) sc_law.nd rfl (Or.inl rfl)) (fun _ _ _ _ _ => pts_nil) (fun _ _ _ _ _ => (pe_call G__law_is_number (hr.mono (by omega)) (by rfl) m__law_is_number k__law_is_number b__law_is_number .nil pass0 (pa_cons (pv 3) (pa_cons (pv 7) pa_nil))))) (pss_cons (ps_set (i := 9) sc_law.nd rfl (Or.inl rfl) (pe_lst (pa_cons (pe_tup (pa_cons pe_non (pa_cons pe_str pa_nil))) (pa_cons (pe_tup (pa_cons pe_non (pa_cons pe_str pa_nil))) (pa_cons (pe_tup (pa_cons pe_non (pa_cons pe_str pa_nil))) (pa_cons (pe_tup (pa_cons pe_non (pa_cons pe_str pa_nil))) pa_nil)))))) (pss_cons (ps_if (pt_val (pe_callB (cr_all rfl) (by rfl) B.all (by decide +kernel) (pa_cons (pv 8) pa_nil))) (pss_cons (ps_asg (pe_tup (pa_cons (pe_call G__law_plus (hr.mono (by omega)) (by rfl) m__law_plus k__law_plus b__law_plus .nil pass0 (pa_cons (pv 3) (pa_cons (pv 5) (pa_cons (pv 6) pa_nil)))) (pa_cons pe_str pa_nil))) (pg_sub (pv 9) pe_int set_list)) (pss_one (ps_asg (pe_tup (pa_cons (pe_call G__law_times (hr.mono (by omega)) (by rfl) m__law_times k__law_times b__law_times .nil pass0 (pa_cons (pv 3) (pa_cons (pv 5) (pa_cons (pv 6) pa_nil)))) (pa_cons pe_str pa_nil))) (pg_sub (pv 9) pe_int set_list)))) pss_nil) (pss_cons (ps_if (pt_val (pe_ix ix_list (pv 8) pe_int (fun _ _ => rfl))) (pss_cons (ps_asg (pe_tup (pa_cons (pe_call G__law_less (hr.mono (by omega)) (by rfl) m__law_less k__law_less b__law_less .nil pass0 (pa_cons (pv 3) (pa_cons (pv 5) pa_nil))) (pa_cons pe_str pa_nil))) (pg_sub (pv 9) pe_int set_list)) (pss_one (ps_asg (pe_ifExp (pt_cmpR (op_eqD hr.units) (pv 5) (pe_tup (pa_cons pe_int (pa_cons pe_int pa_nil))) (nomark _)) (pe_tup (pa_cons pe_non (pa_cons pe_str pa_nil))) (pe_tup (pa_cons (pe_call G__law_over (hr.mono (by omega)) (by rfl) m__law_over k__law_over b__law_over .nil pass0 (pa_cons (pv 3) (pa_cons (pv 5) pa_nil))) (pa_cons pe_str pa_nil)))) (pg_sub (pv 9) pe_int set_list)))) pss_nil) (pss_cons (ps_set (i := 10) sc_law.nd rfl (Or.inl rfl) (pe_lst (pa_cons (LamX.pe_lamS (k := 5) (T := [(PT, qLam)]) (x := "_law_why") (by rfl) W.m W.k W.l W.c W.b sc__law_why rfl (Or.inl rfl) (why_asks rfl mW mM) TB rfl (List.mem_singleton.mpr (by rfl)) (fun p hp _ => by rw [List.mem_singleton.mp hp]; rfl) (hr.mono (by omega)) (LamX.lamS_by (sc := defScope s_law) (by decide +kernel)) rfl (fun _ _ _ _ _ => rfl) (fun _ _ _ _ E _ _ hr => (pe_call G_plus (hr.mono (by omega)) (by rfl) m_plus k_plus b_plus .nil (passes_call (takes_of rfl rfl rfl rfl) (fun _ _ _ _ h => h)) (pa_cons (pv 3) (pa_cons (pv 5) (pa_cons (pv 6) pa_nil)))))) (pa_cons (LamX.pe_lamS (k := 5) (T := [(PT, qLam)]) (x := "_law_why") (by rfl) W.m W.k W.l W.c W.b sc__law_why rfl (Or.inl rfl) (why_asks rfl mW mM) TB rfl (List.mem_singleton.mpr (by rfl)) (fun p hp _ => by rw [List.mem_singleton.mp hp]; rfl) (hr.mono (by omega)) (LamX.lamS_by (sc := defScope s_law) (by decide +kernel)) rfl (fun _ _ _ _ _ => rfl) (fun _ _ _ _ E _ _ hr => (pe_call G_times (hr.mono (by omega)) (by rfl) m_times k_times b_times .nil (passes_call (takes_of rfl rfl rfl rfl) (fun _ _ _ _ h => h)) (pa_cons (pv 3) (pa_cons (pv 5) (pa_cons (pv 6) pa_nil)))))) pa_nil)))) (pss_cons (ps_set (i := 10) sc_law.nd rfl (Or.inl rfl) (pe_op op_cat (pv 10) (pe_lst (pa_cons (LamX.pe_lamS (k := 5) (T := [(PT, qLam)]) (x := "_law_why") (by rfl) W.m W.k W.l W.c W.b sc__law_why rfl (Or.inl rfl) (why_asks rfl mW mM) TB rfl (List.mem_singleton.mpr (by rfl)) (fun p hp _ => by rw [List.mem_singleton.mp hp]; rfl) (hr.mono (by omega)) (LamX.lamS_by (sc := defScope s_law) (by decide +kernel)) rfl (fun _ _ _ _ _ => rfl) (fun _ _ _ _ E _ _ hr => (pe_call G_less (hr.mono (by omega)) (by rfl) m_less k_less b_less .nil (passes_call (takes_of rfl rfl rfl rfl) (fun _ _ _ _ h => h)) (pa_cons (pv 3) (pa_cons (pv 5) pa_nil))))) (pa_cons (LamX.pe_lamS (k := 5) (T := [(PT, qLam)]) (x := "_law_why") (by rfl) W.m W.k W.l W.c W.b sc__law_why rfl (Or.inl rfl) (why_asks rfl mW mM) TB rfl (List.mem_singleton.mpr (by rfl)) (fun p hp _ => by rw [List.mem_singleton.mp hp]; rfl) (hr.mono (by omega)) (LamX.lamS_by (sc := defScope s_law) (by decide +kernel)) rfl (fun _ _ _ _ _ => rfl) (fun _ _ _ _ E _ _ hr => (pe_call G_over (hr.mono (by omega)) (by rfl) m_over k_over b_over .nil (passes_call (takes_of rfl rfl rfl rfl) (fun _ _ _ _ h => h)) (pa_cons (pv 3) (pa_cons (pv 5) pa_nil))))) pa_nil))))) (pss_cons (ps_if (pt_not (pt_val (pe_call G__law_like (hr.mono (by omega)) (by rfl) m__law_like k__law_like b__law_like .nil pass0 (pa_cons (pv 10) (pa_cons (pv 9) pa_nil))))) (pss_one (ps_ret pe_bl)) pss_nil) (pss_cons (ps_set (i := 11) sc_law.nd rfl (Or.inr rfl) (pe_ix ix_list (pe_lst (pa_cons pe_int (pa_cons pe_int (pa_cons pe_int (pa_cons (pe_un un_neg pe_int) pa_nil))))) (pe_call G__law_draw (hr.mono (by omega)) (by rfl) m__law_draw k__law_draw b__law_draw .nil pass0 (pa_cons (pv 1) (pa_cons pe_int pa_nil))) (fun _ _ => rfl))) (pss_cons (ps_set (i := 12) sc_law.nd rfl (Or.inl rfl) (pe_lst (pa_cons (pe_ix ix_tup (LamX.pe_lamS (k := 5) (T := [(PT, qLam)]) (x := "_law_why") (by rfl) W.m W.k W.l W.c W.b sc__law_why rfl (Or.inl rfl) (why_asks rfl mW mM) TB rfl (List.mem_singleton.mpr (by rfl)) (fun p hp _ => by rw [List.mem_singleton.mp hp]; rfl) (hr.mono (by omega)) (LamX.lamS_by (sc := defScope s_law) (by decide +kernel)) rfl (fun _ _ _ _ _ => rfl) (fun _ _ _ _ E _ _ hr => (pe_call G_plus (hr.mono (by omega)) (by rfl) m_plus k_plus b_plus .nil (passes_call (takes_of rfl rfl rfl rfl) (fun _ _ _ _ h => h)) (pa_cons (pv 11) (pa_cons (pv 5) (pa_cons (pe_tup (pa_cons pe_int (pa_cons pe_int pa_nil))) pa_nil)))))) pe_int (fun _ _ => rfl)) (pa_cons (pe_ix ix_tup (LamX.pe_lamS (k := 5) (T := [(PT, qLam)]) (x := "_law_why") (by rfl) W.m W.k W.l W.c W.b sc__law_why rfl (Or.inl rfl) (why_asks rfl mW mM) TB rfl (List.mem_singleton.mpr (by rfl)) (fun p hp _ => by rw [List.mem_singleton.mp hp]; rfl) (hr.mono (by omega)) (LamX.lamS_by (sc := defScope s_law) (by decide +kernel)) rfl (fun _ _ _ _ _ => rfl) (fun _ _ _ _ E _ _ hr => (pe_call G_times (hr.mono (by omega)) (by rfl) m_times k_times b_times .nil (passes_call (takes_of rfl rfl rfl rfl) (fun _ _ _ _ h => h)) (pa_cons (pv 11) (pa_cons (pe_tup (pa_cons pe_int (pa_cons pe_int pa_nil))) (pa_cons (pv 5) pa_nil)))))) pe_int (fun _ _ => rfl)) pa_nil)))) (pss_cons (ps_set (i := 12) sc_law.nd rfl (Or.inl rfl) (pe_op op_cat (pv 12) (pe_lst (pa_cons (pe_ix ix_tup (LamX.pe_lamS (k := 5) (T := [(PT, qLam)]) (x := "_law_why") (by rfl) W.m W.k W.l W.c W.b sc__law_why rfl (Or.inl rfl) (why_asks rfl mW mM) TB rfl (List.mem_singleton.mpr (by rfl)) (fun p hp _ => by rw [List.mem_singleton.mp hp]; rfl) (hr.mono (by omega)) (LamX.lamS_by (sc := defScope s_law) (by decide +kernel)) rfl (fun _ _ _ _ _ => rfl) (fun _ _ _ _ E _ _ hr => (pe_call G_less (hr.mono (by omega)) (by rfl) m_less k_less b_less .nil (passes_call (takes_of rfl rfl rfl rfl) (fun _ _ _ _ h => h)) (pa_cons (pv 11) (pa_cons (pv 5) pa_nil))))) pe_int (fun _ _ => rfl)) (pa_cons (pe_ix ix_tup (LamX.pe_lamS (k := 5) (T := [(PT, qLam)]) (x := "_law_why") (by rfl) W.m W.k W.l W.c W.b sc__law_why rfl (Or.inl rfl) (why_asks rfl mW mM) TB rfl (List.mem_singleton.mpr (by rfl)) (fun p hp _ => by rw [List.mem_singleton.mp hp]; rfl) (hr.mono (by omega)) (LamX.lamS_by (sc := defScope s_law) (by decide +kernel)) rfl (fun _ _ _ _ _ => rfl) (fun _ _ _ _ E _ _ hr => (pe_call G_over (hr.mono (by omega)) (by rfl) m_over k_over b_over .nil (passes_call (takes_of rfl rfl rfl rfl) (fun _ _ _ _ h => h)) (pa_cons (pv 11) (pa_cons (pe_tup (pa_cons pe_int (pa_cons pe_int pa_nil))) pa_nil))))) pe_int (fun _ _ => rfl)) pa_nil))))) (pss_one (ps_if (pt_cmpR (op_neD hr.units) (pv 12) (pe_op op_rep (pe_lst (pa_cons pe_str pa_nil)) pe_int) (nomark _)) (pss_one (ps_ret pe_bl)) pss_nil))))))))))))))))) (pss_one (ps_ret pe_bl)))), ?_⟩
  have tab0 : LamX.Tabs [(PT, qLam)] H := fun p hp => by
    rw [List.mem_singleton.mp hp]
    exact LamX.TabS.nil hT
  refine ⟨_, rfl, a, ns, rfl, hS, fun H1 box l s1 hb1 => ?_⟩
  have hh1 : Here box l [(PT, qLam)] H1 := ⟨hb1, tab0.ext s1⟩
  refine ⟨8, rfl, by decide, by decide, for_range (lo := 0) (n := 8) (fun i σ H' => Here box l [(PT, qLam)] H' ∧ ∃ z2 z3 z4 z5 z6 z7 z8 z9 z10 z11 z12, σ = [some (.ref a), some (.ref box), z2, z3, z4, z5, z6, z7, z8, z9, z10, z11, z12])
    ⟨hh1, none, none, none, none, none, none, none, none, none, none, none, rfl⟩ ?_ (fun σ H' _ => q H')⟩
  clear hh1 s1 hb1
  rintro i σ H3 hi ⟨hh3, z2, z3, z4, z5, z6, z7, z8, z9, z10, z11, z12, rfl⟩
  refine ⟨_, rfl, box, l, rfl, hh3.box, fun H4 fd st4 hf => ?_⟩
  have hh4 := hh3.stp st4
  -- the two numbers
  refine ⟨_, rfl, _, rfl, box, l, fd, rfl, hh4.box, hf, fun H5 w1 r1 st5 n1 g1 m1 => ?_⟩
  have hh5 := hh4.stp st5
  refine ⟨_, rfl, _, rfl, box, l, fd, rfl, hh5.box, hf, fun H6 w2 r2 st6 n2 g2 m2 => ⟨(by show 2 ≤ sizeLine; decide), fun pp hpp => ?_⟩⟩
  have hh6 := hh5.stp st6
  have spp := same_new (o := .lst [w1, w2]) hpp
  have hh7 := hh6.same spp
  have n1 := (n1.keep hh5.box st6.keep).same spp
  have n2 := n2.same spp
  have ppb : pp ≠ box := hh6.box.ne hpp
  have ppl : pp ≠ l := by
    obtain ⟨_, _, _, _, _, _, b2, _⟩ := hh6.box
    exact (ne_of_none b2 hpp).symm
  have epp : (upd H6 pp (.lst [w1, w2])) pp = some (.lst [w1, w2]) := upd_same
  clear hh3 hh4 hh5 st4 st5 st6 g1 g2
  refine gName_go (nx_go ?_)
  refine tIfS_join (fun σ' H' => Here box l [(PT, qLam)] H' ∧ ∃ u1 u2 p1 p2, H' pp = some (.lst [u1, u2]) ∧ NumV K H' u1 p1 ∧ NumV K H' u2 p2 ∧ Sm 4000 p1 ∧ Sm 4000 p2 ∧ σ' = [some (.ref a), some (.ref box), some (.int (0 + (i : Int))), some (.int fd), some (.ref pp), z5, z6, z7, z8, z9, z10, z11, z12]) ?_ (fun rest => ?_)
  case refine_2 =>
    refine ⟨_, rfl, box, l, _, rfl, hh7.box, by decide, by decide +kernel, fun H8 d8 st8 _ _ => ⟨rfl, _, rfl, ite2 (fun e => ?_) (fun e => ?_)⟩⟩
    · have hh8 := hh7.stp st8
      refine ⟨_, rfl, _, rfl, box, l, fd, rfl, hh8.box, hf.nn, f97 hf, fun H9 v r st9 nv mv => ?_⟩
      have hh9 := hh8.stp st9
      refine ⟨_, rfl, _, rfl, box, l, _, rfl, hh9.box, by decide, by decide +kernel, fun H10 d10 st10 d0 d1 => ?_⟩
      have hh10 := hh9.stp st10
      have k10 := (st8.keep.trans st9.keep).trans st10.keep
      have e10 : H10 pp = some (.lst [w1, w2]) := k10 _ _ ppb epp
      have n1 := n1.keep hh7.box k10
      have n2 := n2.keep hh7.box k10
      have nv := nv.keep hh9.box st10.keep
      have hd : d10 = 0 ∨ d10 = 1 := by omega
      rcases hd with rfl | rfl
      · refine ⟨pp, _, _, _, rfl, rfl, e10, rfl, rest _ _ ⟨hh10.put e10 ppb ppl, v, w2, r, r2, upd_same, nv.putL e10, n2.putL e10, mv, m2, rfl⟩⟩
      · refine ⟨pp, _, _, _, rfl, rfl, e10, rfl, rest _ _ ⟨hh10.put e10 ppb ppl, w1, v, r1, r, upd_same, n1.putL e10, nv.putL e10, m1, mv, rfl⟩⟩
    · have hh8 := hh7.stp st8
      exact rest _ _ ⟨hh8, w1, w2, r1, r2, st8.keep _ _ ppb epp, n1.keep hh7.box st8.keep, n2.keep hh7.box st8.keep, m1, m2, rfl⟩
  clear hh6 hh7 n1 n2 m1 m2 epp spp hpp
  rintro σ H7 ⟨hh7, w1, w2, r1, r2, epp, n1, n2, m1, m2, rfl⟩
  -- one, other = pairs
  refine ⟨_, rfl, pp, _, rfl, SqL.of epp, rfl, _, _, rfl, _, _, rfl, rfl, ?_⟩
  -- good
  refine ⟨_, rfl, pp, rfl, ⟨_, SqL.of epp⟩, fun D hD => ?_⟩
  have sD := same_new (o := .lst []) hD
  refine lc_list (K := K) (a := pp) (xs := [w1, w2]) (fun j H' => Same H7 H' ∧ H' D = some (.lst (([isNB fd r1, isNB fd r2].take j).map V.bl))) ⟨sD, upd_same⟩ (fun j H' _ ⟨s, _⟩ => s.seq (SqL.of epp)) ?_ ?_
  · rintro j x H' hj ⟨s, hD'⟩
    match j, hj with
    | 0, hj =>
      cases hj
      refine ⟨rfl, tYes_of (iteT ⟨_, rfl, _, rfl, fd, w1, r1, rfl, hf.nn, n1.same s, _, hD', (by show 0 < sizeLine; decide), same_seqT_upd s hD hD', upd_same⟩)⟩
    | 1, hj =>
      cases hj
      refine ⟨rfl, tYes_of (iteT ⟨_, rfl, _, rfl, fd, w2, r2, rfl, hf.nn, n2.same s, _, hD', (by show 1 < sizeLine; decide), same_seqT_upd s hD hD', upd_same⟩)⟩
  · rintro H8 ⟨s8, eD⟩
    have eD : H8 D = some (.lst [.bl (isNB fd r1), .bl (isNB fd r2)]) := eD
    have hh8 := hh7.same s8
    have n1 := n1.same s8
    have n2 := n2.same s8
    clear hh7 sD hD epp s8
    -- due
    refine ⟨(by show 2 ≤ sizeLine; decide), fun p1 h1 => ⟨(by show 2 ≤ sizeLine; decide), fun p2 h2 => ⟨(by show 2 ≤ sizeLine; decide), fun p3 h3 => ⟨(by show 2 ≤ sizeLine; decide), fun p4 h4 => ⟨(by show 4 ≤ sizeLine; decide), fun pd hd => ?_⟩⟩⟩⟩⟩
    have s1 := same_new (o := .tup [.non, .str "badnumber"]) h1
    have s2 := same_new (o := .tup [.non, .str "badnumber"]) h2
    have s3 := same_new (o := .tup [.non, .str "badnumber"]) h3
    have s4 := same_new (o := .tup [.non, .str "badnumber"]) h4
    have sd := same_new (o := .lst [.ref p1, .ref p2, .ref p3, .ref p4]) hd
    have e1 := (((EV.new (K := K) (u := .non) (x := ((none, "badnumber") : Option Pr × Str)) rfl h1).same s2).same s3).same s4 |>.same sd
    have e2 := ((EV.new (K := K) (u := .non) (x := ((none, "badnumber") : Option Pr × Str)) rfl h2).same s3).same s4 |>.same sd
    have e3 := (EV.new (K := K) (u := .non) (x := ((none, "badnumber") : Option Pr × Str)) rfl h3).same s4 |>.same sd
    have e4 := (EV.new (K := K) (u := .non) (x := ((none, "badnumber") : Option Pr × Str)) rfl h4).same sd
    have S := (((s1.trans s2).trans s3).trans s4).trans sd
    have hh9 := hh8.same S
    have n1 := n1.same S
    have n2 := n2.same S
    have eD9 := S _ _ eD
    have hh8d := hh8.same (((s1.trans s2).trans s3).trans s4)
    have pdb : pd ≠ box := hh8d.box.ne hd
    have pdl : pd ≠ l := by
      obtain ⟨_, _, _, _, _, _, b2, _⟩ := hh8d.box
      exact (ne_of_none b2 hd).symm
    have pdD : D ≠ pd := ne_of_none ((((s1.trans s2).trans s3).trans s4) _ _ eD) hd
    clear eD hh8 S hh8d
    generalize eq9 : upd (upd (upd (upd (upd H8 p1 (.tup [.non, .str "badnumber"])) p2 (.tup [.non, .str "badnumber"])) p3 (.tup [.non, .str "badnumber"])) p4 (.tup [.non, .str "badnumber"])) pd (.lst [.ref p1, .ref p2, .ref p3, .ref p4]) = H9 at *
    have ed : H9 pd = some (.lst [.ref p1, .ref p2, .ref p3, .ref p4]) := by
      rw [← eq9]
      exact upd_same
    clear eq9 sd s1 s2 s3 s4 hd
    have hs9 : S9 K box l [(PT, qLam)] D [.bl (isNB fd r1), .bl (isNB fd r2)] w1 w2 r1 r2 H9 := ⟨hh9, n1, n2, eD9⟩
    clear hh9 n1 n2 eD9
    refine gName_go (nx_go ?_)
    refine tIfS_join (fun σ' H' => S9 K box l [(PT, qLam)] D [.bl (isNB fd r1), .bl (isNB fd r2)] w1 w2 r1 r2 H' ∧ (∃ u0 u1 u2 u3, H' pd = some (.lst [u0, u1, u2, u3]) ∧ EV K H' u0 (X2 addN fd r1 r2) ∧ EV K H' u1 (X2 mulN fd r1 r2) ∧ EV K H' u2 ((none, "badnumber") : Option Pr × Str) ∧ EV K H' u3 ((none, "badnumber") : Option Pr × Str)) ∧
      ∃ y7, σ' = [some (.ref a), some (.ref box), some (.int (0 + (i : Int))), some (.int fd), some (.ref pp), some w1, some w2, y7, some (.ref D), some (.ref pd), z10, z11, z12]) ?_ (fun rest => ?_)
    case refine_2 =>
      refine ⟨_, rfl, D, [isNB fd r1, isNB fd r2], rfl, SqL.of hs9.good, _, rfl, ite2 (fun e => ?_) (fun e => ?_)⟩
      · have e : (isNB fd r1 && (isNB fd r2 && true)) = true := e
        rw [Bool.and_true, Bool.and_eq_true] at e
        obtain ⟨g1, g2⟩ := e
        refine ⟨_, rfl, _, rfl, _, rfl, fd, w1, w2, r1, r2, rfl, hf, hs9.n1, hs9.n2, ⟨isNB_iff.mp g1, m1⟩, ⟨isNB_iff.mp g2, m2⟩, fun H10 u10 s10 hu10 => ⟨(by show 2 ≤ sizeLine; decide), fun p10 hp10 => ?_⟩⟩
        have t10 := s10.trans (same_new (o := .tup [u10, .str ""]) hp10)
        have ev10 := EV.new (K := K) (u := u10) (x := ((some (addN fd r1 r2), "") : Option Pr × Str)) hu10 hp10
        have ed10 := t10 _ _ ed
        have hs10 := (hs9.same t10).put (ys := [.ref p10, .ref p2, .ref p3, .ref p4]) ed10 pdb pdl pdD
        refine ⟨_, rfl, pd, _, _, _, rfl, rfl, ed10, rfl, ?_⟩
        refine ⟨_, rfl, _, rfl, _, rfl, fd, w1, w2, r1, r2, rfl, hf, hs10.n1, hs10.n2, ⟨isNB_iff.mp g1, m1⟩, ⟨isNB_iff.mp g2, m2⟩, fun H11 u11 s11 hu11 => ⟨(by show 2 ≤ sizeLine; decide), fun p11 hp11 => ?_⟩⟩
        have t11 := s11.trans (same_new (o := .tup [u11, .str ""]) hp11)
        have ev11 := EV.new (K := K) (u := u11) (x := ((some (mulN fd r1 r2), "") : Option Pr × Str)) hu11 hp11
        have ed11 : (upd H11 p11 (.tup [u11, .str ""])) pd = some (.lst [.ref p10, .ref p2, .ref p3, .ref p4]) := t11 _ _ upd_same
        refine ⟨_, rfl, pd, _, _, _, rfl, rfl, ed11, rfl, rest _ _ ⟨(hs10.same t11).put ed11 pdb pdl pdD, ⟨.ref p10, .ref p11, .ref p3, .ref p4, upd_same, ?_, ?_, ?_, ?_⟩, _, rfl⟩⟩
        · rw [X2_yes g1 g2]
          exact ((ev10.put ed10).same t11).put ed11
        · rw [X2_yes g1 g2]
          exact ev11.put ed11
        · exact (((e3.same t10).put ed10).same t11).put ed11
        · exact (((e4.same t10).put ed10).same t11).put ed11
      · have e : ¬ (isNB fd r1 && isNB fd r2) = true := fun z => e (by
          show (isNB fd r1 && (isNB fd r2 && true)) = true
          rw [Bool.and_true]
          exact z)
        refine rest _ _ ⟨hs9, ⟨.ref p1, .ref p2, .ref p3, .ref p4, ed, ?_, ?_, e3, e4⟩, _, rfl⟩
        · rw [X2_no e]
          exact e1
        · rw [X2_no e]
          exact e2
    clear hs9 e1 e2 e3 e4 ed h1 h2 h3 h4
    rintro σ H9 ⟨hs9, ⟨u0, u1, u2, u3, ed, e0, e1, e2, e3⟩, y7, rfl⟩
    -- the second if
    refine nx_go ?_
    refine tIfS_join (fun σ' H' => S9 K box l [(PT, qLam)] D [.bl (isNB fd r1), .bl (isNB fd r2)] w1 w2 r1 r2 H' ∧ (∃ u0 u1 u2 u3, H' pd = some (.lst [u0, u1, u2, u3]) ∧ EV K H' u0 (X2 addN fd r1 r2) ∧ EV K H' u1 (X2 mulN fd r1 r2) ∧ EV K H' u2 (XL fd r1) ∧ EV K H' u3 (XO fd r1)) ∧
      ∃ y7, σ' = [some (.ref a), some (.ref box), some (.int (0 + (i : Int))), some (.int fd), some (.ref pp), some w1, some w2, y7, some (.ref D), some (.ref pd), z10, z11, z12]) ?_ (fun rest => ?_)
    case refine_2 =>
      refine ⟨_, rfl, D, _, _, _, rfl, rfl, SqL.of hs9.good, rfl, _, rfl, ite2 (fun e => ?_) (fun e => ?_)⟩
      · have g1 : isNB fd r1 = true := e
        refine ⟨_, rfl, _, rfl, fd, w1, r1, rfl, hf, hs9.n1, ⟨isNB_iff.mp g1, m1⟩, (fun z => Bool.noConfusion z), fun H10 u10 s10 hu10 => ⟨(by show 2 ≤ sizeLine; decide), fun p10 hp10 => ?_⟩⟩
        have t10 := s10.trans (same_new (o := .tup [u10, .str ""]) hp10)
        have ev10 := EV.new (K := K) (u := u10) (x := ((some (negN fd r1), "") : Option Pr × Str)) hu10 hp10
        have ed10 := t10 _ _ ed
        have hs10 := (hs9.same t10).put (ys := [u0, u1, .ref p10, u3]) ed10 pdb pdl pdD
        refine ⟨_, rfl, pd, _, _, _, rfl, rfl, ed10, rfl, ?_⟩
        refine ⟨_, rfl, (by show 2 ≤ sizeLine; decide), fun p11 hp11 => eq_valP (hs10.n1.same (same_new hp11)) (NumV.new 0 1) ⟨_, rfl, ite2 (fun e => ?_) (fun e => ?_)⟩⟩
        · have e := of_decide_eq_true e
          refine ⟨(by show 2 ≤ sizeLine; decide), fun p12 hp12 => ?_⟩
          have t12 := (same_new (o := .tup [.int 0, .int 1]) hp11).trans (same_new (o := .tup [.non, .str "nought"]) hp12)
          have ev12 := EV.new (K := K) (u := .non) (x := ((none, "nought") : Option Pr × Str)) rfl hp12
          have ed12 : (upd (upd (upd (upd H10 p10 (.tup [u10, .str ""])) pd (.lst [u0, u1, .ref p10, u3])) p11 (.tup [.int 0, .int 1])) p12 (.tup [.non, .str "nought"])) pd = some (.lst [u0, u1, .ref p10, u3]) := t12 _ _ upd_same
          refine ⟨_, rfl, pd, _, _, _, rfl, rfl, ed12, rfl, rest _ _ ⟨(hs10.same t12).put ed12 pdb pdl pdD, ⟨u0, u1, .ref p10, .ref p12, upd_same, ?_, ?_, ?_, ?_⟩, _, rfl⟩⟩
          · exact (((e0.same t10).put ed10).same t12).put ed12
          · exact (((e1.same t10).put ed10).same t12).put ed12
          · rw [XL_yes g1]
            exact ((ev10.put ed10).same t12).put ed12
          · rw [XO_nought g1 e]
            exact ev12.put ed12
        · have e : r1 ≠ (0, 1) := fun z => e (decide_eq_true z)
          have t11 := same_new (o := .tup [.int 0, .int 1]) hp11
          refine ⟨_, rfl, _, rfl, fd, w1, r1, rfl, hf, hs10.n1.same t11, ⟨isNB_iff.mp g1, m1⟩, (fun _ => fun z => e ((zero_iff g1).mp z)), fun H12 u12 s12 hu12 => ⟨(by show 2 ≤ sizeLine; decide), fun p12 hp12 => ?_⟩⟩
          have t12 := (t11.trans s12).trans (same_new (o := .tup [u12, .str ""]) hp12)
          have ev12 := EV.new (K := K) (u := u12) (x := ((some (invN fd r1), "") : Option Pr × Str)) hu12 hp12
          have ed12 : (upd H12 p12 (.tup [u12, .str ""])) pd = some (.lst [u0, u1, .ref p10, u3]) := t12 _ _ upd_same
          refine ⟨_, rfl, pd, _, _, _, rfl, rfl, ed12, rfl, rest _ _ ⟨(hs10.same t12).put ed12 pdb pdl pdD, ⟨u0, u1, .ref p10, .ref p12, upd_same, ?_, ?_, ?_, ?_⟩, _, rfl⟩⟩
          · exact (((e0.same t10).put ed10).same t12).put ed12
          · exact (((e1.same t10).put ed10).same t12).put ed12
          · rw [XL_yes g1]
            exact ((ev10.put ed10).same t12).put ed12
          · rw [XO_yes g1 e]
            exact ev12.put ed12
      · have e : ¬ isNB fd r1 = true := e
        refine rest _ _ ⟨hs9, ⟨u0, u1, u2, u3, ed, e0, e1, ?_, ?_⟩, _, rfl⟩
        · rw [XL_no e]
          exact e2
        · rw [XO_no e]
          exact e3
    clear hs9 e0 e1 e2 e3 ed u0 u1 u2 u3 y7
    rintro σ H9 ⟨hs9, ⟨u0, u1, u2, u3, ed, e0, e1, e2, e3⟩, y7, rfl⟩
    refine nx_go ?_
    -- found
    refine lst_go2 (lam_two hs9.here.tab rfl rfl rfl hf hs9.n1 hs9.n2 m1 m2 fun v1 H10 x10 t10 f1 => ?_)
    have hs10 := hs9.extN x10 t10
    refine lam_two t10 rfl rfl rfl hf hs10.n1 hs10.n2 m1 m2 fun v2 H11 x11 t11 f2 => ?_
    have hs11 := hs10.extN x11 t11
    refine ⟨(by show 2 ≤ sizeLine; decide), fun pf hpf => ?_⟩
    have x12 := x10.trans x11
    have s12 := same_new (o := .lst [v1, v2]) hpf
    have hs12 := hs11.same s12
    have f1 := (f1.extN x11).same s12
    have f2 := f2.same s12
    have e0 := (e0.extN x12).same s12
    have e1 := (e1.extN x12).same s12
    have e2 := (e2.extN x12).same s12
    have e3 := (e3.extN x12).same s12
    have ed : (upd H11 pf (.lst [v1, v2])) pd = _ := s12 _ _ (x12 _ _ ed (fun _ z => by cases z))
    have ef : (upd H11 pf (.lst [v1, v2])) pf = some (.lst [v1, v2]) := upd_same
    clear hs9 hs10 hs11 x10 x11 x12 t10 t11
    generalize upd H11 pf (.lst [v1, v2]) = H12 at *
    clear s12
    refine gName_go (nx_go ?_)
    refine cat_go2 rfl (lam_less hs12.here.tab rfl rfl hf hs12.n1 m1 fun v3 H13 x13 t13 f3 => ?_)
    have hs13 := hs12.extN x13 t13
    refine lam_over t13 rfl rfl hf hs13.n1 m1 fun v4 H14 x14 t14 f4 => ?_
    have hs14 := hs13.extN x14 t14
    refine ⟨(by show 2 ≤ sizeLine; decide), fun pg hpg => ?_⟩
    have x15 := x13.trans x14
    have s15 := same_new (o := .lst [v3, v4]) hpg
    have ef := s15 _ _ (x15 _ _ ef (fun _ z => by cases z))
    refine ⟨pf, pg, [v1, v2], [v3, v4], rfl, rfl, ef, upd_same, (by show 4 ≤ sizeLine; decide), fun ph hph => ?_⟩
    have s16 := s15.trans (same_new (o := .lst ([v1, v2] ++ [v3, v4])) hph)
    have hs16 := hs14.same s16
    have f1 := (f1.extN x15).same s16
    have f2 := (f2.extN x15).same s16
    have f3 := (f3.extN x14).same s16
    have f4 := f4.same s16
    have e0 := (e0.extN x15).same s16
    have e1 := (e1.extN x15).same s16
    have e2 := (e2.extN x15).same s16
    have e3 := (e3.extN x15).same s16
    have ed : (upd (upd H14 pg (.lst [v3, v4])) ph (.lst ([v1, v2] ++ [v3, v4]))) pd = _ := s16 _ _ (x15 _ _ ed (fun _ z => by cases z))
    have eh : (upd (upd H14 pg (.lst [v3, v4])) ph (.lst ([v1, v2] ++ [v3, v4]))) ph = some (.lst [v1, v2, v3, v4]) := upd_same
    clear hs12 hs13 hs14 x13 x14 x15 t13 t14 ef
    generalize upd (upd H14 pg (.lst [v3, v4])) ph (.lst ([v1, v2] ++ [v3, v4])) = H16 at *
    clear s16 s15
    -- like
    refine ⟨_, rfl, _, rfl, _, _, .list [evD (X2 addN fd r1 r2), evD (X2 mulN fd r1 r2), evD (XL fd r1), evD (XO fd r1)], rfl, .lst (SqL.of eh) (.cons f1.dp (.cons f2.dp (.cons f3.dp (.cons f4.dp .nil)))), .lst (SqL.of ed) (.cons e0.dp (.cons e1.dp (.cons e2.dp (.cons e3.dp .nil)))), ok_ev _ _ _ _, fun H17 s17 => ⟨_, rfl, iteF ?_⟩⟩
    have hs17 := hs16.same s17
    clear hs16 f1 f2 f3 f4 e0 e1 e2 e3 ed eh s17
    -- odd
    refine ⟨_, rfl, (by show 4 ≤ sizeLine; decide), fun po hpo => ?_⟩
    have so := same_new (o := .lst [.int 1, .int 9, .int 98, .int (-3)]) hpo
    have hs18 := hs17.same so
    refine ⟨_, rfl, box, l, _, rfl, hs18.here.box, by decide, by decide +kernel, fun H19 r st r0 r1' => ?_⟩
    have hS : SqL K H19 po [.int 1, .int 9, .int 98, .int (-3)] := SqL.keep (SqL.of upd_same) (hs17.here.box.ne hpo) st.keep
    have hh19 := hs18.here.stp st
    have n19 := hs18.n1.keep hs18.here.box st.keep
    have hO : ∃ o : Int, atI [V.int 1, .int 9, .int 98, .int (-3)] r = some (.int o) ∧ ¬ IsF o := by
      have hr : r = 0 ∨ r = 1 ∨ r = 2 ∨ r = 3 := by omega
      rcases hr with rfl | rfl | rfl | rfl
      · exact ⟨_, rfl, odd_bad (by decide)⟩
      · exact ⟨_, rfl, odd_bad (by decide)⟩
      · exact ⟨_, rfl, odd_bad (by decide)⟩
      · exact ⟨_, rfl, odd_bad (by decide)⟩
    obtain ⟨o, hot, hob⟩ := hO
    refine ⟨po, _, _, _, rfl, rfl, hS, hot, ?_⟩
    clear hs18 hs17 hS so st hot
    -- words
    refine ⟨hh19.tab, fun H20 x20 tab20 E R hE hR => ?_⟩
    refine ⟨_, rfl, _, rfl, (by show 2 ≤ sizeLine; decide), fun pz hpz => ⟨o, w1, .ref pz, r1, (0, 0), rfl, (n19.extN x20).same (same_new hpz), NumV.new 0 0, m1, ⟨by decide, by decide⟩, (fun h => absurd h hob), (fun h => absurd h hob), fun _ => fun C d H21 hC s21 hd => hE C d _ H21 hC hd (fun p21 hp21 => ?_)⟩⟩
    have s22 := ((same_new (o := .tup [.int 0, .int 0]) hpz).trans s21).trans (same_new (o := .tup [.non, .str "badfield"]) hp21)
    have hh22 := (hh19.extN x20 tab20).same s22
    have n22 := (n19.extN x20).same s22
    refine ⟨p21, _, _, _, rfl, rfl, SqT.of upd_same, at1 _ _, ?_⟩
    clear hE hR hh19 n19 s22 x20 tab20
    refine ⟨hh22.tab, fun H23 x23 tab23 E R hE hR => ?_⟩
    refine ⟨_, rfl, (by show 2 ≤ sizeLine; decide), fun pz hpz => ?_⟩
    refine ⟨_, rfl, o, .ref pz, w1, (0, 0), r1, rfl, NumV.new 0 0, (n22.extN x23).same (same_new hpz), ⟨by decide, by decide⟩, m1, (fun h => absurd h hob), (fun h => absurd h hob), fun _ => fun C d H24 hC s24 hd => hE C d _ H24 hC hd (fun p24 hp24 => ?_)⟩
    have s25 := ((same_new (o := .tup [.int 0, .int 0]) hpz).trans s24).trans (same_new (o := .tup [.non, .str "badfield"]) hp24)
    have hh25 := (hh22.extN x23 tab23).same s25
    have n25 := (n22.extN x23).same s25
    refine ⟨p24, _, _, _, rfl, rfl, SqT.of upd_same, at1 _ _, ?_⟩
    clear hE hR hh22 n22 s25 x23 tab23
    refine ⟨(by show 2 ≤ sizeLine; decide), fun pw hpw => ?_⟩
    have sw := same_new (o := .lst [.str "badfield", .str "badfield"]) hpw
    have hh26 := hh25.same sw
    have n26 := n25.same sw
    have ew : (upd (upd H24 p24 (.tup [.non, .str "badfield"])) pw (.lst [.str "badfield", .str "badfield"])) pw = some (.lst [.str "badfield", .str "badfield"]) := upd_same
    generalize upd (upd H24 p24 (.tup [.non, .str "badfield"])) pw (.lst [.str "badfield", .str "badfield"]) = H26 at *
    clear sw hh25 n25
    -- words + [..]
    refine ⟨_, rfl, ?_⟩
    refine ⟨hh26.tab, fun H27 x27 tab27 E R hE hR => ?_⟩
    refine ⟨_, rfl, _, rfl, o, w1, r1, rfl, n26.extN x27, m1, (fun h => absurd h hob), (fun h => absurd h hob), fun _ => fun C d H28 hC s28 hd => hE C d _ H28 hC hd (fun p28 hp28 => ?_)⟩
    have s29 := s28.trans (same_new (o := .tup [.non, .str "badfield"]) hp28)
    have hh29 := (hh26.extN x27 tab27).same s29
    have ew := s29 _ _ (x27 _ _ ew (fun _ z => by cases z))
    refine ⟨p28, _, _, _, rfl, rfl, SqT.of upd_same, at1 _ _, ?_⟩
    clear hE hR hh26 n26 s29 x27 tab27
    refine ⟨hh29.tab, fun H30 x30 tab30 E R hE hR => ?_⟩
    refine ⟨_, rfl, (by show 2 ≤ sizeLine; decide), fun pz hpz => ?_⟩
    refine ⟨o, .ref pz, (0, 1), rfl, NumV.new 0 1, ⟨by decide, by decide⟩, (fun h => absurd h hob), (fun h => absurd h hob), (fun h => absurd h hob), fun _ => fun C d H31 hC s31 hd => hE C d _ H31 hC hd (fun p31 hp31 => ?_)⟩
    have s32 := ((same_new (o := .tup [.int 0, .int 1]) hpz).trans s31).trans (same_new (o := .tup [.non, .str "badfield"]) hp31)
    have hh32 := (hh29.extN x30 tab30).same s32
    have ew := s32 _ _ (x30 _ _ ew (fun _ z => by cases z))
    refine ⟨p31, _, _, _, rfl, rfl, SqT.of upd_same, at1 _ _, ?_⟩
    clear hE hR hh29 s32 x30 tab30
    refine ⟨(by show 2 ≤ sizeLine; decide), fun px hpx => ?_⟩
    have sx := same_new (o := .lst [.str "badfield", .str "badfield"]) hpx
    have hh33 := hh32.same sx
    have ew := sx _ _ ew
    refine ⟨pw, px, [.str "badfield", .str "badfield"], [.str "badfield", .str "badfield"], rfl, rfl, ew, upd_same, (by show 4 ≤ sizeLine; decide), fun py hpy => ?_⟩
    have sy := same_new (o := .lst ([.str "badfield", .str "badfield"] ++ [.str "badfield", .str "badfield"])) hpy
    have hh34 := hh33.same sy
    -- words != ['badfield'] * 4
    refine ⟨_, rfl, (by show 1 ≤ sizeLine; decide), fun pu hpu => ?_⟩
    have su := same_new (o := .lst [.str "badfield"]) hpu
    refine ⟨pu, 4, [.str "badfield"], rfl, rfl, upd_same, by decide, by decide, (by show 4 ≤ sizeLine; decide), fun pv hpv => ?_⟩
    have sv := su.trans (same_new (o := .lst [.str "badfield", .str "badfield", .str "badfield", .str "badfield"]) hpv)
    refine ⟨.list [.str "badfield", .str "badfield", .str "badfield", .str "badfield"], .list [.str "badfield", .str "badfield", .str "badfield", .str "badfield"], .lst (sv.seq (SqL.of upd_same)) (.cons (.str _) (.cons (.str _) (.cons (.str _) (.cons (.str _) .nil)))), .lst (SqL.of upd_same) (.cons (.str _) (.cons (.str _) (.cons (.str _) (.cons (.str _) .nil)))), by decide +kernel, by decide +kernel, _, rfl, ?_⟩
    rw [show PyData.eqv (.list [.str "badfield", .str "badfield", .str "badfield", .str "badfield"]) (.list [.str "badfield", .str "badfield", .str "badfield", .str "badfield"]) = true by decide]
    exact iteF ⟨hh34.same sv, _, _, _, _, _, _, _, _, _, _, _, rfl⟩

theorem exm_of {K : PySem.W.Frag} {C S : Addr} (h1 : PySem.W.subIn K (.ref S) (.type "BaseException") = some true) (h2 : PySem.W.isClsIn K S = true) (h3 : PySem.W.typeIn K (.ref S) = some (.type "type")) (h4 : PySem.W.subIn K (.ref C) (.ref S) = some true) : PySem.W.exmOne K (.ref C) (.ref S) = some true := by
  have e1 : (PySem.W.subIn K (.ref S) (.type "BaseException") == some true) = true := by
    rw [h1]
    rfl
  have e2 : ((PySem.W.clsIn K S).isSome && PySem.W.typeIn K (.ref S) == some (.type "type")) = true := by
    have h2 : (PySem.W.clsIn K S).isSome = true := h2
    rw [h2, h3]
    rfl
  unfold PySem.W.exmOne
  rw [if_pos e1]
  unfold PySem.W.kitCls
  first
    | exact h4
    | (rw [if_pos e2]; exact h4)
    | (simp only [e2, if_true]; exact h4)
    | (dsimp only; rw [if_pos e2]; exact h4)
theorem all_mk {l : PySem.W.OpenLaw} {w : World} {K : PySem.W.Frag} {h : Heap} {mg : Str → Option Value} {fa : Addr} (X : K.In h) (G : h.Ns mainGlobals mg) (hfa : mg "law" = some (.ref fa)) (OT : LamX.OwnTab K fa h)
    {f__law_open : Addr} {od__law_open an__law_open : Option Addr} {sl__law_open : Array (Option Value)} {oc__law_open kV__law_open dc__law_open pm__law_open cd__law_open ct__law_open : Value}
    {f__law_draw : Addr} {od__law_draw an__law_draw : Option Addr} {sl__law_draw : Array (Option Value)} {oc__law_draw kV__law_draw dc__law_draw pm__law_draw cd__law_draw ct__law_draw : Value}
    {f__law_any : Addr} {od__law_any an__law_any : Option Addr} {sl__law_any : Array (Option Value)} {oc__law_any kV__law_any dc__law_any pm__law_any cd__law_any ct__law_any : Value}
    {f__law_primes : Addr} {od__law_primes an__law_primes : Option Addr} {sl__law_primes : Array (Option Value)} {oc__law_primes kV__law_primes dc__law_primes pm__law_primes cd__law_primes ct__law_primes : Value}
    {f__law_field : Addr} {od__law_field an__law_field : Option Addr} {sl__law_field : Array (Option Value)} {oc__law_field kV__law_field dc__law_field pm__law_field cd__law_field ct__law_field : Value}
    {f__law_gcd : Addr} {od__law_gcd an__law_gcd : Option Addr} {sl__law_gcd : Array (Option Value)} {oc__law_gcd kV__law_gcd dc__law_gcd pm__law_gcd cd__law_gcd ct__law_gcd : Value}
    {f__law_num : Addr} {od__law_num an__law_num : Option Addr} {sl__law_num : Array (Option Value)} {oc__law_num kV__law_num dc__law_num pm__law_num cd__law_num ct__law_num : Value}
    {f__law_number : Addr} {od__law_number an__law_number : Option Addr} {sl__law_number : Array (Option Value)} {oc__law_number kV__law_number dc__law_number pm__law_number cd__law_number ct__law_number : Value}
    {f__law_great : Addr} {od__law_great an__law_great : Option Addr} {sl__law_great : Array (Option Value)} {oc__law_great kV__law_great dc__law_great pm__law_great cd__law_great ct__law_great : Value}
    {f__law_odd_pair : Addr} {od__law_odd_pair an__law_odd_pair : Option Addr} {sl__law_odd_pair : Array (Option Value)} {oc__law_odd_pair kV__law_odd_pair dc__law_odd_pair pm__law_odd_pair cd__law_odd_pair ct__law_odd_pair : Value}
    {f__law_is_number : Addr} {od__law_is_number an__law_is_number : Option Addr} {sl__law_is_number : Array (Option Value)} {oc__law_is_number kV__law_is_number dc__law_is_number pm__law_is_number cd__law_is_number ct__law_is_number : Value}
    {f__law_why : Addr} {od__law_why an__law_why : Option Addr} {sl__law_why : Array (Option Value)} {oc__law_why kV__law_why dc__law_why pm__law_why cd__law_why ct__law_why : Value}
    {f__law_int : Addr} {od__law_int an__law_int : Option Addr} {sl__law_int : Array (Option Value)} {oc__law_int kV__law_int dc__law_int pm__law_int cd__law_int ct__law_int : Value}
    {f__law_like : Addr} {od__law_like an__law_like : Option Addr} {sl__law_like : Array (Option Value)} {oc__law_like kV__law_like dc__law_like pm__law_like cd__law_like ct__law_like : Value}
    {f__law_plus : Addr} {od__law_plus an__law_plus : Option Addr} {sl__law_plus : Array (Option Value)} {oc__law_plus kV__law_plus dc__law_plus pm__law_plus cd__law_plus ct__law_plus : Value}
    {f__law_times : Addr} {od__law_times an__law_times : Option Addr} {sl__law_times : Array (Option Value)} {oc__law_times kV__law_times dc__law_times pm__law_times cd__law_times ct__law_times : Value}
    {f__law_less : Addr} {od__law_less an__law_less : Option Addr} {sl__law_less : Array (Option Value)} {oc__law_less kV__law_less dc__law_less pm__law_less cd__law_less ct__law_less : Value}
    {f__law_over : Addr} {od__law_over an__law_over : Option Addr} {sl__law_over : Array (Option Value)} {oc__law_over kV__law_over dc__law_over pm__law_over cd__law_over ct__law_over : Value}
    {f_is_field : Addr} {od_is_field an_is_field : Option Addr} {sl_is_field : Array (Option Value)} {oc_is_field kV_is_field dc_is_field pm_is_field cd_is_field ct_is_field : Value}
    {f_check_field : Addr} {od_check_field an_check_field : Option Addr} {sl_check_field : Array (Option Value)} {oc_check_field kV_check_field dc_check_field pm_check_field cd_check_field ct_check_field : Value}
    {f_fits : Addr} {od_fits an_fits : Option Addr} {sl_fits : Array (Option Value)} {oc_fits kV_fits dc_fits pm_fits cd_fits ct_fits : Value}
    {f_check_numbers : Addr} {od_check_numbers an_check_numbers : Option Addr} {sl_check_numbers : Array (Option Value)} {oc_check_numbers kV_check_numbers dc_check_numbers pm_check_numbers cd_check_numbers ct_check_numbers : Value}
    {f_added : Addr} {od_added an_added : Option Addr} {sl_added : Array (Option Value)} {oc_added kV_added dc_added pm_added cd_added ct_added : Value}
    {f_plus : Addr} {od_plus an_plus : Option Addr} {sl_plus : Array (Option Value)} {oc_plus kV_plus dc_plus pm_plus cd_plus ct_plus : Value}
    {f_inverse : Addr} {od_inverse an_inverse : Option Addr} {sl_inverse : Array (Option Value)} {oc_inverse kV_inverse dc_inverse pm_inverse cd_inverse ct_inverse : Value}
    {f_lowest : Addr} {od_lowest an_lowest : Option Addr} {sl_lowest : Array (Option Value)} {oc_lowest kV_lowest dc_lowest pm_lowest cd_lowest ct_lowest : Value}
    {f_multiplied : Addr} {od_multiplied an_multiplied : Option Addr} {sl_multiplied : Array (Option Value)} {oc_multiplied kV_multiplied dc_multiplied pm_multiplied cd_multiplied ct_multiplied : Value}
    {f_times : Addr} {od_times an_times : Option Addr} {sl_times : Array (Option Value)} {oc_times kV_times dc_times pm_times cd_times ct_times : Value}
    {f_negative : Addr} {od_negative an_negative : Option Addr} {sl_negative : Array (Option Value)} {oc_negative kV_negative dc_negative pm_negative cd_negative ct_negative : Value}
    {f_less : Addr} {od_less an_less : Option Addr} {sl_less : Array (Option Value)} {oc_less kV_less dc_less pm_less cd_less ct_less : Value}
    {f_is_nought : Addr} {od_is_nought an_is_nought : Option Addr} {sl_is_nought : Array (Option Value)} {oc_is_nought kV_is_nought dc_is_nought pm_is_nought cd_is_nought ct_is_nought : Value}
    {f_flipped : Addr} {od_flipped an_flipped : Option Addr} {sl_flipped : Array (Option Value)} {oc_flipped kV_flipped dc_flipped pm_flipped cd_flipped ct_flipped : Value}
    {f_over : Addr} {od_over an_over : Option Addr} {sl_over : Array (Option Value)} {oc_over kV_over dc_over pm_over cd_over ct_over : Value}
    {f_law : Addr} {od_law an_law : Option Addr} {sl_law : Array (Option Value)} {oc_law kV_law dc_law pm_law ct_law : Value}
    {aF : Addr} {odF : Option Addr} {itsF : Array Value} {nF : Nat} {slF : Array (Option Value)}
    {cL PT : Addr} {ddL : Option Addr} {vsL : Array Value} {slL : Array (Option Value)} {fileL : Str} {tfL tgL ttL : Tok} {flagsL textL : Int} {inFL : Bool}
    {CW CM fI : Addr} {ocI dVI kVI dcI pmI cdI ctI : Value} {odI anI : Option Addr} {slI : Array (Option Value)}
    {C_BadField N_BadField : Addr} {nm_BadField q_BadField n2_BadField : Str} {tk_BadField : Tok} {bs_BadField bm_BadField sub_BadField : List Value} {sn_BadField : List Str} {ab_BadField : Bool} {col_BadField : Option Bool} {dd_BadField : Option Addr} {k0_BadField k1_BadField k3_BadField k5_BadField : Option Value}
    {C_BadNumber N_BadNumber : Addr} {nm_BadNumber q_BadNumber n2_BadNumber : Str} {tk_BadNumber : Tok} {bs_BadNumber bm_BadNumber sub_BadNumber : List Value} {sn_BadNumber : List Str} {ab_BadNumber : Bool} {col_BadNumber : Option Bool} {dd_BadNumber : Option Addr} {k0_BadNumber k1_BadNumber k3_BadNumber k5_BadNumber : Option Value}
    {C_Nought N_Nought : Addr} {nm_Nought q_Nought n2_Nought : Str} {tk_Nought : Tok} {bs_Nought bm_Nought sub_Nought : List Value} {sn_Nought : List Str} {ab_Nought : Bool} {col_Nought : Option Bool} {dd_Nought : Option Addr} {k0_Nought k1_Nought k3_Nought k5_Nought : Option Value}
    (a__law_open : PySem.W.nsIn K mainGlobals "_law_open" = some (some (.ref f__law_open))) (l__law_open : K.lookup f__law_open = some ⟨oc__law_open, od__law_open, .func (PySem.W.fnOf "_law_open" "_law_open" (defArgs s__law_open) (defBody s__law_open) (defScope s__law_open) .none kV__law_open dc__law_open pm__law_open an__law_open cd__law_open ct__law_open), sl__law_open⟩) (c__law_open : PySem.W.codeIn K cd__law_open "_law_open" = true) (k__law_open : PySem.W.keepIn K (.ref f__law_open) = true)
    (a__law_draw : PySem.W.nsIn K mainGlobals "_law_draw" = some (some (.ref f__law_draw))) (l__law_draw : K.lookup f__law_draw = some ⟨oc__law_draw, od__law_draw, .func (PySem.W.fnOf "_law_draw" "_law_draw" (defArgs s__law_draw) (defBody s__law_draw) (defScope s__law_draw) .none kV__law_draw dc__law_draw pm__law_draw an__law_draw cd__law_draw ct__law_draw), sl__law_draw⟩) (c__law_draw : PySem.W.codeIn K cd__law_draw "_law_draw" = true) (k__law_draw : PySem.W.keepIn K (.ref f__law_draw) = true)
    (a__law_any : PySem.W.nsIn K mainGlobals "_law_any" = some (some (.ref f__law_any))) (l__law_any : K.lookup f__law_any = some ⟨oc__law_any, od__law_any, .func (PySem.W.fnOf "_law_any" "_law_any" (defArgs s__law_any) (defBody s__law_any) (defScope s__law_any) .none kV__law_any dc__law_any pm__law_any an__law_any cd__law_any ct__law_any), sl__law_any⟩) (c__law_any : PySem.W.codeIn K cd__law_any "_law_any" = true) (k__law_any : PySem.W.keepIn K (.ref f__law_any) = true)
    (a__law_primes : PySem.W.nsIn K mainGlobals "_law_primes" = some (some (.ref f__law_primes))) (l__law_primes : K.lookup f__law_primes = some ⟨oc__law_primes, od__law_primes, .func (PySem.W.fnOf "_law_primes" "_law_primes" (defArgs s__law_primes) (defBody s__law_primes) (defScope s__law_primes) .none kV__law_primes dc__law_primes pm__law_primes an__law_primes cd__law_primes ct__law_primes), sl__law_primes⟩) (c__law_primes : PySem.W.codeIn K cd__law_primes "_law_primes" = true) (k__law_primes : PySem.W.keepIn K (.ref f__law_primes) = true)
    (a__law_field : PySem.W.nsIn K mainGlobals "_law_field" = some (some (.ref f__law_field))) (l__law_field : K.lookup f__law_field = some ⟨oc__law_field, od__law_field, .func (PySem.W.fnOf "_law_field" "_law_field" (defArgs s__law_field) (defBody s__law_field) (defScope s__law_field) .none kV__law_field dc__law_field pm__law_field an__law_field cd__law_field ct__law_field), sl__law_field⟩) (c__law_field : PySem.W.codeIn K cd__law_field "_law_field" = true) (k__law_field : PySem.W.keepIn K (.ref f__law_field) = true)
    (a__law_gcd : PySem.W.nsIn K mainGlobals "_law_gcd" = some (some (.ref f__law_gcd))) (l__law_gcd : K.lookup f__law_gcd = some ⟨oc__law_gcd, od__law_gcd, .func (PySem.W.fnOf "_law_gcd" "_law_gcd" (defArgs s__law_gcd) (defBody s__law_gcd) (defScope s__law_gcd) .none kV__law_gcd dc__law_gcd pm__law_gcd an__law_gcd cd__law_gcd ct__law_gcd), sl__law_gcd⟩) (c__law_gcd : PySem.W.codeIn K cd__law_gcd "_law_gcd" = true) (k__law_gcd : PySem.W.keepIn K (.ref f__law_gcd) = true)
    (a__law_num : PySem.W.nsIn K mainGlobals "_law_num" = some (some (.ref f__law_num))) (l__law_num : K.lookup f__law_num = some ⟨oc__law_num, od__law_num, .func (PySem.W.fnOf "_law_num" "_law_num" (defArgs s__law_num) (defBody s__law_num) (defScope s__law_num) .none kV__law_num dc__law_num pm__law_num an__law_num cd__law_num ct__law_num), sl__law_num⟩) (c__law_num : PySem.W.codeIn K cd__law_num "_law_num" = true) (k__law_num : PySem.W.keepIn K (.ref f__law_num) = true)
    (a__law_number : PySem.W.nsIn K mainGlobals "_law_number" = some (some (.ref f__law_number))) (l__law_number : K.lookup f__law_number = some ⟨oc__law_number, od__law_number, .func (PySem.W.fnOf "_law_number" "_law_number" (defArgs s__law_number) (defBody s__law_number) (defScope s__law_number) .none kV__law_number dc__law_number pm__law_number an__law_number cd__law_number ct__law_number), sl__law_number⟩) (c__law_number : PySem.W.codeIn K cd__law_number "_law_number" = true) (k__law_number : PySem.W.keepIn K (.ref f__law_number) = true)
    (a__law_great : PySem.W.nsIn K mainGlobals "_law_great" = some (some (.ref f__law_great))) (l__law_great : K.lookup f__law_great = some ⟨oc__law_great, od__law_great, .func (PySem.W.fnOf "_law_great" "_law_great" (defArgs s__law_great) (defBody s__law_great) (defScope s__law_great) .none kV__law_great dc__law_great pm__law_great an__law_great cd__law_great ct__law_great), sl__law_great⟩) (c__law_great : PySem.W.codeIn K cd__law_great "_law_great" = true) (k__law_great : PySem.W.keepIn K (.ref f__law_great) = true)
    (a__law_odd_pair : PySem.W.nsIn K mainGlobals "_law_odd_pair" = some (some (.ref f__law_odd_pair))) (l__law_odd_pair : K.lookup f__law_odd_pair = some ⟨oc__law_odd_pair, od__law_odd_pair, .func (PySem.W.fnOf "_law_odd_pair" "_law_odd_pair" (defArgs s__law_odd_pair) (defBody s__law_odd_pair) (defScope s__law_odd_pair) .none kV__law_odd_pair dc__law_odd_pair pm__law_odd_pair an__law_odd_pair cd__law_odd_pair ct__law_odd_pair), sl__law_odd_pair⟩) (c__law_odd_pair : PySem.W.codeIn K cd__law_odd_pair "_law_odd_pair" = true) (k__law_odd_pair : PySem.W.keepIn K (.ref f__law_odd_pair) = true)
    (a__law_is_number : PySem.W.nsIn K mainGlobals "_law_is_number" = some (some (.ref f__law_is_number))) (l__law_is_number : K.lookup f__law_is_number = some ⟨oc__law_is_number, od__law_is_number, .func (PySem.W.fnOf "_law_is_number" "_law_is_number" (defArgs s__law_is_number) (defBody s__law_is_number) (defScope s__law_is_number) .none kV__law_is_number dc__law_is_number pm__law_is_number an__law_is_number cd__law_is_number ct__law_is_number), sl__law_is_number⟩) (c__law_is_number : PySem.W.codeIn K cd__law_is_number "_law_is_number" = true) (k__law_is_number : PySem.W.keepIn K (.ref f__law_is_number) = true)
    (a__law_why : PySem.W.nsIn K mainGlobals "_law_why" = some (some (.ref f__law_why))) (l__law_why : K.lookup f__law_why = some ⟨oc__law_why, od__law_why, .func (PySem.W.fnOf "_law_why" "_law_why" (defArgs s__law_why) (defBody s__law_why) (defScope s__law_why) .none kV__law_why dc__law_why pm__law_why an__law_why cd__law_why ct__law_why), sl__law_why⟩) (c__law_why : PySem.W.codeIn K cd__law_why "_law_why" = true) (k__law_why : PySem.W.keepIn K (.ref f__law_why) = true)
    (a__law_int : PySem.W.nsIn K mainGlobals "_law_int" = some (some (.ref f__law_int))) (l__law_int : K.lookup f__law_int = some ⟨oc__law_int, od__law_int, .func (PySem.W.fnOf "_law_int" "_law_int" (defArgs s__law_int) (defBody s__law_int) (defScope s__law_int) .none kV__law_int dc__law_int pm__law_int an__law_int cd__law_int ct__law_int), sl__law_int⟩) (c__law_int : PySem.W.codeIn K cd__law_int "_law_int" = true) (k__law_int : PySem.W.keepIn K (.ref f__law_int) = true)
    (a__law_like : PySem.W.nsIn K mainGlobals "_law_like" = some (some (.ref f__law_like))) (l__law_like : K.lookup f__law_like = some ⟨oc__law_like, od__law_like, .func (PySem.W.fnOf "_law_like" "_law_like" (defArgs s__law_like) (defBody s__law_like) (defScope s__law_like) .none kV__law_like dc__law_like pm__law_like an__law_like cd__law_like ct__law_like), sl__law_like⟩) (c__law_like : PySem.W.codeIn K cd__law_like "_law_like" = true) (k__law_like : PySem.W.keepIn K (.ref f__law_like) = true)
    (a__law_plus : PySem.W.nsIn K mainGlobals "_law_plus" = some (some (.ref f__law_plus))) (l__law_plus : K.lookup f__law_plus = some ⟨oc__law_plus, od__law_plus, .func (PySem.W.fnOf "_law_plus" "_law_plus" (defArgs s__law_plus) (defBody s__law_plus) (defScope s__law_plus) .none kV__law_plus dc__law_plus pm__law_plus an__law_plus cd__law_plus ct__law_plus), sl__law_plus⟩) (c__law_plus : PySem.W.codeIn K cd__law_plus "_law_plus" = true) (k__law_plus : PySem.W.keepIn K (.ref f__law_plus) = true)
    (a__law_times : PySem.W.nsIn K mainGlobals "_law_times" = some (some (.ref f__law_times))) (l__law_times : K.lookup f__law_times = some ⟨oc__law_times, od__law_times, .func (PySem.W.fnOf "_law_times" "_law_times" (defArgs s__law_times) (defBody s__law_times) (defScope s__law_times) .none kV__law_times dc__law_times pm__law_times an__law_times cd__law_times ct__law_times), sl__law_times⟩) (c__law_times : PySem.W.codeIn K cd__law_times "_law_times" = true) (k__law_times : PySem.W.keepIn K (.ref f__law_times) = true)
    (a__law_less : PySem.W.nsIn K mainGlobals "_law_less" = some (some (.ref f__law_less))) (l__law_less : K.lookup f__law_less = some ⟨oc__law_less, od__law_less, .func (PySem.W.fnOf "_law_less" "_law_less" (defArgs s__law_less) (defBody s__law_less) (defScope s__law_less) .none kV__law_less dc__law_less pm__law_less an__law_less cd__law_less ct__law_less), sl__law_less⟩) (c__law_less : PySem.W.codeIn K cd__law_less "_law_less" = true) (k__law_less : PySem.W.keepIn K (.ref f__law_less) = true)
    (a__law_over : PySem.W.nsIn K mainGlobals "_law_over" = some (some (.ref f__law_over))) (l__law_over : K.lookup f__law_over = some ⟨oc__law_over, od__law_over, .func (PySem.W.fnOf "_law_over" "_law_over" (defArgs s__law_over) (defBody s__law_over) (defScope s__law_over) .none kV__law_over dc__law_over pm__law_over an__law_over cd__law_over ct__law_over), sl__law_over⟩) (c__law_over : PySem.W.codeIn K cd__law_over "_law_over" = true) (k__law_over : PySem.W.keepIn K (.ref f__law_over) = true)
    (a_is_field : PySem.W.nsIn K mainGlobals "is_field" = some (some (.ref f_is_field))) (l_is_field : K.lookup f_is_field = some ⟨oc_is_field, od_is_field, .func (PySem.W.fnOf "is_field" "is_field" (defArgs s_is_field) (defBody s_is_field) (defScope s_is_field) .none kV_is_field dc_is_field pm_is_field an_is_field cd_is_field ct_is_field), sl_is_field⟩) (c_is_field : PySem.W.codeIn K cd_is_field "is_field" = true) (k_is_field : PySem.W.keepIn K (.ref f_is_field) = true)
    (a_check_field : PySem.W.nsIn K mainGlobals "check_field" = some (some (.ref f_check_field))) (l_check_field : K.lookup f_check_field = some ⟨oc_check_field, od_check_field, .func (PySem.W.fnOf "check_field" "check_field" (defArgs s_check_field) (defBody s_check_field) (defScope s_check_field) .none kV_check_field dc_check_field pm_check_field an_check_field cd_check_field ct_check_field), sl_check_field⟩) (c_check_field : PySem.W.codeIn K cd_check_field "check_field" = true) (k_check_field : PySem.W.keepIn K (.ref f_check_field) = true)
    (a_fits : PySem.W.nsIn K mainGlobals "fits" = some (some (.ref f_fits))) (l_fits : K.lookup f_fits = some ⟨oc_fits, od_fits, .func (PySem.W.fnOf "fits" "fits" (defArgs s_fits) (defBody s_fits) (defScope s_fits) .none kV_fits dc_fits pm_fits an_fits cd_fits ct_fits), sl_fits⟩) (c_fits : PySem.W.codeIn K cd_fits "fits" = true) (k_fits : PySem.W.keepIn K (.ref f_fits) = true)
    (a_check_numbers : PySem.W.nsIn K mainGlobals "check_numbers" = some (some (.ref f_check_numbers))) (l_check_numbers : K.lookup f_check_numbers = some ⟨oc_check_numbers, od_check_numbers, .func (PySem.W.fnOf "check_numbers" "check_numbers" (defArgs s_check_numbers) (defBody s_check_numbers) (defScope s_check_numbers) .none kV_check_numbers dc_check_numbers pm_check_numbers an_check_numbers cd_check_numbers ct_check_numbers), sl_check_numbers⟩) (c_check_numbers : PySem.W.codeIn K cd_check_numbers "check_numbers" = true) (k_check_numbers : PySem.W.keepIn K (.ref f_check_numbers) = true)
    (a_added : PySem.W.nsIn K mainGlobals "added" = some (some (.ref f_added))) (l_added : K.lookup f_added = some ⟨oc_added, od_added, .func (PySem.W.fnOf "added" "added" (defArgs s_added) (defBody s_added) (defScope s_added) .none kV_added dc_added pm_added an_added cd_added ct_added), sl_added⟩) (c_added : PySem.W.codeIn K cd_added "added" = true) (k_added : PySem.W.keepIn K (.ref f_added) = true)
    (a_plus : PySem.W.nsIn K mainGlobals "plus" = some (some (.ref f_plus))) (l_plus : K.lookup f_plus = some ⟨oc_plus, od_plus, .func (PySem.W.fnOf "plus" "plus" (defArgs s_plus) (defBody s_plus) (defScope s_plus) .none kV_plus dc_plus pm_plus an_plus cd_plus ct_plus), sl_plus⟩) (c_plus : PySem.W.codeIn K cd_plus "plus" = true) (k_plus : PySem.W.keepIn K (.ref f_plus) = true)
    (a_inverse : PySem.W.nsIn K mainGlobals "inverse" = some (some (.ref f_inverse))) (l_inverse : K.lookup f_inverse = some ⟨oc_inverse, od_inverse, .func (PySem.W.fnOf "inverse" "inverse" (defArgs s_inverse) (defBody s_inverse) (defScope s_inverse) .none kV_inverse dc_inverse pm_inverse an_inverse cd_inverse ct_inverse), sl_inverse⟩) (c_inverse : PySem.W.codeIn K cd_inverse "inverse" = true) (k_inverse : PySem.W.keepIn K (.ref f_inverse) = true)
    (a_lowest : PySem.W.nsIn K mainGlobals "lowest" = some (some (.ref f_lowest))) (l_lowest : K.lookup f_lowest = some ⟨oc_lowest, od_lowest, .func (PySem.W.fnOf "lowest" "lowest" (defArgs s_lowest) (defBody s_lowest) (defScope s_lowest) .none kV_lowest dc_lowest pm_lowest an_lowest cd_lowest ct_lowest), sl_lowest⟩) (c_lowest : PySem.W.codeIn K cd_lowest "lowest" = true) (k_lowest : PySem.W.keepIn K (.ref f_lowest) = true)
    (a_multiplied : PySem.W.nsIn K mainGlobals "multiplied" = some (some (.ref f_multiplied))) (l_multiplied : K.lookup f_multiplied = some ⟨oc_multiplied, od_multiplied, .func (PySem.W.fnOf "multiplied" "multiplied" (defArgs s_multiplied) (defBody s_multiplied) (defScope s_multiplied) .none kV_multiplied dc_multiplied pm_multiplied an_multiplied cd_multiplied ct_multiplied), sl_multiplied⟩) (c_multiplied : PySem.W.codeIn K cd_multiplied "multiplied" = true) (k_multiplied : PySem.W.keepIn K (.ref f_multiplied) = true)
    (a_times : PySem.W.nsIn K mainGlobals "times" = some (some (.ref f_times))) (l_times : K.lookup f_times = some ⟨oc_times, od_times, .func (PySem.W.fnOf "times" "times" (defArgs s_times) (defBody s_times) (defScope s_times) .none kV_times dc_times pm_times an_times cd_times ct_times), sl_times⟩) (c_times : PySem.W.codeIn K cd_times "times" = true) (k_times : PySem.W.keepIn K (.ref f_times) = true)
    (a_negative : PySem.W.nsIn K mainGlobals "negative" = some (some (.ref f_negative))) (l_negative : K.lookup f_negative = some ⟨oc_negative, od_negative, .func (PySem.W.fnOf "negative" "negative" (defArgs s_negative) (defBody s_negative) (defScope s_negative) .none kV_negative dc_negative pm_negative an_negative cd_negative ct_negative), sl_negative⟩) (c_negative : PySem.W.codeIn K cd_negative "negative" = true) (k_negative : PySem.W.keepIn K (.ref f_negative) = true)
    (a_less : PySem.W.nsIn K mainGlobals "less" = some (some (.ref f_less))) (l_less : K.lookup f_less = some ⟨oc_less, od_less, .func (PySem.W.fnOf "less" "less" (defArgs s_less) (defBody s_less) (defScope s_less) .none kV_less dc_less pm_less an_less cd_less ct_less), sl_less⟩) (c_less : PySem.W.codeIn K cd_less "less" = true) (k_less : PySem.W.keepIn K (.ref f_less) = true)
    (a_is_nought : PySem.W.nsIn K mainGlobals "is_nought" = some (some (.ref f_is_nought))) (l_is_nought : K.lookup f_is_nought = some ⟨oc_is_nought, od_is_nought, .func (PySem.W.fnOf "is_nought" "is_nought" (defArgs s_is_nought) (defBody s_is_nought) (defScope s_is_nought) .none kV_is_nought dc_is_nought pm_is_nought an_is_nought cd_is_nought ct_is_nought), sl_is_nought⟩) (c_is_nought : PySem.W.codeIn K cd_is_nought "is_nought" = true) (k_is_nought : PySem.W.keepIn K (.ref f_is_nought) = true)
    (a_flipped : PySem.W.nsIn K mainGlobals "flipped" = some (some (.ref f_flipped))) (l_flipped : K.lookup f_flipped = some ⟨oc_flipped, od_flipped, .func (PySem.W.fnOf "flipped" "flipped" (defArgs s_flipped) (defBody s_flipped) (defScope s_flipped) .none kV_flipped dc_flipped pm_flipped an_flipped cd_flipped ct_flipped), sl_flipped⟩) (c_flipped : PySem.W.codeIn K cd_flipped "flipped" = true) (k_flipped : PySem.W.keepIn K (.ref f_flipped) = true)
    (a_over : PySem.W.nsIn K mainGlobals "over" = some (some (.ref f_over))) (l_over : K.lookup f_over = some ⟨oc_over, od_over, .func (PySem.W.fnOf "over" "over" (defArgs s_over) (defBody s_over) (defScope s_over) .none kV_over dc_over pm_over an_over cd_over ct_over), sl_over⟩) (c_over : PySem.W.codeIn K cd_over "over" = true) (k_over : PySem.W.keepIn K (.ref f_over) = true)
    (a_law : PySem.W.nsIn K mainGlobals "law" = some (some (.ref f_law))) (l_law : K.lookup f_law = some ⟨oc_law, od_law, .func (PySem.W.fnOf "law" "law" (defArgs s_law) (defBody s_law) (defScope s_law) .none kV_law dc_law pm_law an_law (.ref cL) ct_law), sl_law⟩) (c_law : PySem.W.codeIn K (.ref cL) "law" = true) (k_law : PySem.W.keepIn K (.ref f_law) = true)
    (z_len : PySem.W.nsIn K mainGlobals "len" = some none)
    (z_range : PySem.W.nsIn K mainGlobals "range" = some none)
    (z_all : PySem.W.nsIn K mainGlobals "all" = some none)
    (z_abs : PySem.W.nsIn K mainGlobals "abs" = some none)
    (z_list : PySem.W.nsIn K mainGlobals "list" = some none)
    (z_isinstance : PySem.W.nsIn K mainGlobals "isinstance" = some none)
    (z_int : PySem.W.nsIn K mainGlobals "int" = some none)
    (z_bool : PySem.W.nsIn K mainGlobals "bool" = some none)
    (z_str : PySem.W.nsIn K mainGlobals "str" = some none)
    (z_tuple : PySem.W.nsIn K mainGlobals "tuple" = some none)
    (z_ValueError : PySem.W.nsIn K mainGlobals "ValueError" = some none)
    (z_gcd : PySem.W.nsIn K mainGlobals "gcd" = some (some (.builtin "math.gcd")))
    (a_FIELDS : PySem.W.nsIn K mainGlobals "FIELDS" = some (some (.ref aF))) (l_FIELDS : K.lookup aF = some ⟨.type "tuple", odF, .seq itsF nF, slF⟩) (v_FIELDS : Vals (fieldsL.map V.int) itsF.toList)
    (l_code : K.lookup cL = some ⟨.type "code", ddL, .fields vsL, slL⟩) (v_11 : vsL[11]? = some (.ref PT)) (v_g11 : vsL.getD 11 .none = .ref PT) (v_18 : vsL.getD 18 .none = .str fileL tfL) (v_7 : vsL.getD 7 .none = .int flagsL tgL) (v_9 : vsL.getD 9 .none = .bool inFL) (v_10 : vsL.getD 10 .none = .int textL ttL) (n_cP : cL ≠ PT) (n_PT : K.lookup PT = none)
    (a_WebError : PySem.W.nsIn K mainGlobals "WebError" = some (some (.ref CW))) (a_Missing : PySem.W.nsIn K mainGlobals "Missing" = some (some (.ref CM))) (s_W : PySem.W.subIn K (.ref CW) (.type "BaseException") = some true) (i_W : PySem.W.isClsIn K CW = true) (y_W : PySem.W.typeIn K (.ref CW) = some (.type "type"))
    (i_I : PySem.W.findIn K (.ref CW) "__init__" = some (some (.ref fI)))
    (l_I : K.lookup fI = some ⟨ocI, odI, .func (PySem.W.fnOf "__init__" "WebError.__init__" (defArgs s_init) (defBody s_init) (defScope s_init) dVI kVI dcI pmI anI cdI ctI), slI⟩) (c_I : PySem.W.codeIn K cdI "WebError.__init__" = true) (k_I : PySem.W.keepIn K (.ref fI) = true) (y_I : PySem.W.typeIn K (.ref fI) = some (.type "function")) (t_I : DflV K dVI [.str ""]) (v_V : PySem.W.findCls K (.type "ValueError") (.type "type") "__init__" = some (.val (.builtin "ValueError.__init__")))
    (n_cg : PySem.W.specialIn K (.builtin "object.__class__") "__get__" = some (some (.builtin "getset_descriptor.__get__"))) (t_cg : PySem.W.takesIn K (.builtin "object.__class__") = some true)
    (a_BadField : PySem.W.nsIn K mainGlobals "BadField" = some (some (.ref C_BadField)))
    (x_BadField : K.lookup C_BadField = some (excClassObj nm_BadField q_BadField C_BadField N_BadField bs_BadField bm_BadField true sn_BadField sub_BadField ab_BadField col_BadField dd_BadField k0_BadField k1_BadField (some (.str n2_BadField tk_BadField)) k3_BadField k5_BadField "ValueError.__new__"))
    (r_BadField : PySem.HandSPX.refsVE bm_BadField = true)
    (w_BadField : Txt.lower n2_BadField = "badfield")
    (n_BadField : n2_BadField.length ≤ 5592405)
    (sa_BadField : PySem.W.findIn K (.ref C_BadField) "__setattr__" = some (some (.builtin "object.__setattr__")))
    (ga_BadField : PySem.W.findIn K (.ref C_BadField) "__getattribute__" = some (some (.builtin "BaseException.__getattribute__")))
    (gg_BadField : PySem.W.findIn K (.ref C_BadField) "__getattr__" = some none)
    (xc_BadField : PySem.W.subIn K (.ref C_BadField) (.type "BaseException") = some true)
    (y_BadField : PySem.W.typeIn K (.ref C_BadField) = some (.type "type"))
    (k_BadField : PySem.W.keepIn K (.ref C_BadField) = true)
    (d_BadField : PySem.W.hasDictIn K C_BadField = true)
    (c_BadField : PySem.W.findIn K (.ref C_BadField) "__class__" = some (some (.builtin "object.__class__")))
    (m_BadField : PySem.W.mroIn K C_BadField (.type "object") = some true)
    (rd_BadField : PySem.W.readsIn K C_BadField (.type "type") = true)
    (f_BadField : PySem.W.findCls K (.ref C_BadField) (.type "type") "__name__" = some (.get (.builtin "getset_descriptor.__get__") (.builtin "type.__name__") (.ref C_BadField) (.type "type")))
    (o_BadField : PySem.W.findIn K (.ref C_BadField) "word" = some none)
    (i_BadField : PySem.W.findIn K (.ref C_BadField) "__init__" = some (some (.ref fI)))
    (s_BadField : PySem.W.subIn K (.ref C_BadField) (.ref CW) = some true)
    (a_BadNumber : PySem.W.nsIn K mainGlobals "BadNumber" = some (some (.ref C_BadNumber)))
    (x_BadNumber : K.lookup C_BadNumber = some (excClassObj nm_BadNumber q_BadNumber C_BadNumber N_BadNumber bs_BadNumber bm_BadNumber true sn_BadNumber sub_BadNumber ab_BadNumber col_BadNumber dd_BadNumber k0_BadNumber k1_BadNumber (some (.str n2_BadNumber tk_BadNumber)) k3_BadNumber k5_BadNumber "ValueError.__new__"))
    (r_BadNumber : PySem.HandSPX.refsVE bm_BadNumber = true)
    (w_BadNumber : Txt.lower n2_BadNumber = "badnumber")
    (n_BadNumber : n2_BadNumber.length ≤ 5592405)
    (sa_BadNumber : PySem.W.findIn K (.ref C_BadNumber) "__setattr__" = some (some (.builtin "object.__setattr__")))
    (ga_BadNumber : PySem.W.findIn K (.ref C_BadNumber) "__getattribute__" = some (some (.builtin "BaseException.__getattribute__")))
    (gg_BadNumber : PySem.W.findIn K (.ref C_BadNumber) "__getattr__" = some none)
    (xc_BadNumber : PySem.W.subIn K (.ref C_BadNumber) (.type "BaseException") = some true)
    (y_BadNumber : PySem.W.typeIn K (.ref C_BadNumber) = some (.type "type"))
    (k_BadNumber : PySem.W.keepIn K (.ref C_BadNumber) = true)
    (d_BadNumber : PySem.W.hasDictIn K C_BadNumber = true)
    (c_BadNumber : PySem.W.findIn K (.ref C_BadNumber) "__class__" = some (some (.builtin "object.__class__")))
    (m_BadNumber : PySem.W.mroIn K C_BadNumber (.type "object") = some true)
    (rd_BadNumber : PySem.W.readsIn K C_BadNumber (.type "type") = true)
    (f_BadNumber : PySem.W.findCls K (.ref C_BadNumber) (.type "type") "__name__" = some (.get (.builtin "getset_descriptor.__get__") (.builtin "type.__name__") (.ref C_BadNumber) (.type "type")))
    (o_BadNumber : PySem.W.findIn K (.ref C_BadNumber) "word" = some none)
    (i_BadNumber : PySem.W.findIn K (.ref C_BadNumber) "__init__" = some (some (.ref fI)))
    (s_BadNumber : PySem.W.subIn K (.ref C_BadNumber) (.ref CW) = some true)
    (a_Nought : PySem.W.nsIn K mainGlobals "Nought" = some (some (.ref C_Nought)))
    (x_Nought : K.lookup C_Nought = some (excClassObj nm_Nought q_Nought C_Nought N_Nought bs_Nought bm_Nought true sn_Nought sub_Nought ab_Nought col_Nought dd_Nought k0_Nought k1_Nought (some (.str n2_Nought tk_Nought)) k3_Nought k5_Nought "ValueError.__new__"))
    (r_Nought : PySem.HandSPX.refsVE bm_Nought = true)
    (w_Nought : Txt.lower n2_Nought = "nought")
    (n_Nought : n2_Nought.length ≤ 5592405)
    (sa_Nought : PySem.W.findIn K (.ref C_Nought) "__setattr__" = some (some (.builtin "object.__setattr__")))
    (ga_Nought : PySem.W.findIn K (.ref C_Nought) "__getattribute__" = some (some (.builtin "BaseException.__getattribute__")))
    (gg_Nought : PySem.W.findIn K (.ref C_Nought) "__getattr__" = some none)
    (xc_Nought : PySem.W.subIn K (.ref C_Nought) (.type "BaseException") = some true)
    (y_Nought : PySem.W.typeIn K (.ref C_Nought) = some (.type "type"))
    (k_Nought : PySem.W.keepIn K (.ref C_Nought) = true)
    (d_Nought : PySem.W.hasDictIn K C_Nought = true)
    (c_Nought : PySem.W.findIn K (.ref C_Nought) "__class__" = some (some (.builtin "object.__class__")))
    (m_Nought : PySem.W.mroIn K C_Nought (.type "object") = some true)
    (rd_Nought : PySem.W.readsIn K C_Nought (.type "type") = true)
    (f_Nought : PySem.W.findCls K (.ref C_Nought) (.type "type") "__name__" = some (.get (.builtin "getset_descriptor.__get__") (.builtin "type.__name__") (.ref C_Nought) (.type "type")))
    (o_Nought : PySem.W.findIn K (.ref C_Nought) "word" = some none)
    (i_Nought : PySem.W.findIn K (.ref C_Nought) "__init__" = some (some (.ref fI)))
    (s_Nought : PySem.W.subIn K (.ref C_Nought) (.ref CW) = some true) :
    LamX.LawAtS l w K CX0 8 63 "_law_script" mg fa h := by
  have e := hfa.symm.trans (PySem.W.mg_of X G a_law)
  cases e
  have B : Bn mg := { gcd := PySem.W.mg_of X G z_gcd, len := PySem.W.mg_none_of X G z_len, range := PySem.W.mg_none_of X G z_range, all := PySem.W.mg_none_of X G z_all, abs := PySem.W.mg_none_of X G z_abs, list := PySem.W.mg_none_of X G z_list, isinstance := PySem.W.mg_none_of X G z_isinstance, int := PySem.W.mg_none_of X G z_int, bool := PySem.W.mg_none_of X G z_bool, str := PySem.W.mg_none_of X G z_str, tuple := PySem.W.mg_none_of X G z_tuple }
  have sF : itsF.size ≤ sizeLine := by
    have e : (fieldsL.map V.int).length = itsF.toList.length := v_FIELDS.length
    have e2 : itsF.size = itsF.toList.length := (Array.length_toList ..).symm
    rw [e2, ← e]
    decide
  have TF : FieldsAt K mg := ⟨aF, PySem.W.mg_of X G a_FIELDS, fun H => .inr ⟨_, itsF, nF, l_FIELDS, rfl, rfl, sF, v_FIELDS⟩⟩
  have mW := PySem.W.mg_of X G a_WebError
  have mM := PySem.W.mg_of X G a_Missing
  have E_BadField : ErrC K mg CW "BadField" C_BadField fI "badfield" :=
    { oex := ⟨⟨_, _, _, _, _, _, _, _, _, _, _, _, _, _, _, x_BadField, r_BadField⟩, sa_BadField, xc_BadField, y_BadField, k_BadField⟩, exc := ⟨ga_BadField, gg_BadField, xc_BadField, d_BadField, c_BadField, n_cg, t_cg, m_BadField⟩, nm := ⟨n2_BadField, ⟨y_BadField, rd_BadField, f_BadField, _, tk_BadField, x_BadField, rfl⟩, n_BadField, w_BadField⟩, xf := ⟨ga_BadField, gg_BadField, xc_BadField, d_BadField⟩, noW := o_BadField, mgC := PySem.W.mg_of X G a_BadField, iC := i_BadField, te := exm_of s_W i_W y_W s_BadField }
  have E_BadNumber : ErrC K mg CW "BadNumber" C_BadNumber fI "badnumber" :=
    { oex := ⟨⟨_, _, _, _, _, _, _, _, _, _, _, _, _, _, _, x_BadNumber, r_BadNumber⟩, sa_BadNumber, xc_BadNumber, y_BadNumber, k_BadNumber⟩, exc := ⟨ga_BadNumber, gg_BadNumber, xc_BadNumber, d_BadNumber, c_BadNumber, n_cg, t_cg, m_BadNumber⟩, nm := ⟨n2_BadNumber, ⟨y_BadNumber, rd_BadNumber, f_BadNumber, _, tk_BadNumber, x_BadNumber, rfl⟩, n_BadNumber, w_BadNumber⟩, xf := ⟨ga_BadNumber, gg_BadNumber, xc_BadNumber, d_BadNumber⟩, noW := o_BadNumber, mgC := PySem.W.mg_of X G a_BadNumber, iC := i_BadNumber, te := exm_of s_W i_W y_W s_BadNumber }
  have E_Nought : ErrC K mg CW "Nought" C_Nought fI "nought" :=
    { oex := ⟨⟨_, _, _, _, _, _, _, _, _, _, _, _, _, _, _, x_Nought, r_Nought⟩, sa_Nought, xc_Nought, y_Nought, k_Nought⟩, exc := ⟨ga_Nought, gg_Nought, xc_Nought, d_Nought, c_Nought, n_cg, t_cg, m_Nought⟩, nm := ⟨n2_Nought, ⟨y_Nought, rd_Nought, f_Nought, _, tk_Nought, x_Nought, rfl⟩, n_Nought, w_Nought⟩, xf := ⟨ga_Nought, gg_Nought, xc_Nought, d_Nought⟩, noW := o_Nought, mgC := PySem.W.mg_of X G a_Nought, iC := i_Nought, te := exm_of s_W i_W y_W s_Nought }
  refine ⟨PySem.W.fnOf "law" "law" (defArgs s_law) (defBody s_law) (defScope s_law) .none kV_law dc_law pm_law an_law (.ref cL) ct_law, [(cL, PT)], spLawT K PT, fun p hp => ?_, fun p hp => ?_, fun p hp => ?_, fun s u => .of_eq rfl, fun H a ns _ _ hT hS => ?_, fun base _ _ hTB => ?_⟩
  · rw [List.mem_singleton.mp hp]
    exact OT cL PT _ _ _ _ _ _ l_law rfl rfl l_code v_11
  · rw [List.mem_singleton.mp hp]
    exact n_PT
  · rw [List.mem_singleton.mp hp]
    exact ⟨_, vsL, fileL, tfL, flagsL, tgL, inFL, textL, ttL, X _ _ l_code, rfl, rfl, v_11, v_g11, v_18, v_7, v_9, v_10, n_cP⟩
  · exact ⟨a, ns, rfl, hS, hT (cL, PT) (List.mem_singleton.mpr rfl), fun _ => rfl⟩
  have TB : LamX.TabB base mg cL PT := hTB (cL, PT) (List.mem_singleton.mpr rfl)
  have G_init := d_init (P := l.prog) (w := w) (base := base) ⟨⟨_, _, _, _, _, _, _, _, _, _, rfl, l_I, c_I, t_I, .inl rfl⟩, k_I⟩ (PySem.W.mg_none_of X G z_ValueError) v_V y_I
  have R__law_open : Raw K mg "_law_open" s__law_open := ⟨_, _, fun_mk (st := s__law_open) l__law_open c__law_open k__law_open, PySem.W.mg_of X G a__law_open⟩
  have D__law_open := d__law_open (P := l.prog) (w := w) (base := base) R__law_open B 
  have R__law_draw : Raw K mg "_law_draw" s__law_draw := ⟨_, _, fun_mk (st := s__law_draw) l__law_draw c__law_draw k__law_draw, PySem.W.mg_of X G a__law_draw⟩
  have D__law_draw := d__law_draw (P := l.prog) (w := w) (base := base) R__law_draw B 
  have R__law_any : Raw K mg "_law_any" s__law_any := ⟨_, _, fun_mk (st := s__law_any) l__law_any c__law_any k__law_any, PySem.W.mg_of X G a__law_any⟩
  have D__law_any := d__law_any (P := l.prog) (w := w) (base := base) R__law_any B D__law_draw
  have R__law_primes : Raw K mg "_law_primes" s__law_primes := ⟨_, _, fun_mk (st := s__law_primes) l__law_primes c__law_primes k__law_primes, PySem.W.mg_of X G a__law_primes⟩
  have D__law_primes := d__law_primes (P := l.prog) (w := w) (base := base) R__law_primes  
  have R__law_field : Raw K mg "_law_field" s__law_field := ⟨_, _, fun_mk (st := s__law_field) l__law_field c__law_field k__law_field, PySem.W.mg_of X G a__law_field⟩
  have D__law_field := d__law_field (P := l.prog) (w := w) (base := base) R__law_field  D__law_draw D__law_any D__law_primes
  have R__law_gcd : Raw K mg "_law_gcd" s__law_gcd := ⟨_, _, fun_mk (st := s__law_gcd) l__law_gcd c__law_gcd k__law_gcd, PySem.W.mg_of X G a__law_gcd⟩
  have D__law_gcd := d__law_gcd (P := l.prog) (w := w) (base := base) R__law_gcd B 
  have R__law_num : Raw K mg "_law_num" s__law_num := ⟨_, _, fun_mk (st := s__law_num) l__law_num c__law_num k__law_num, PySem.W.mg_of X G a__law_num⟩
  have D__law_num := d__law_num (P := l.prog) (w := w) (base := base) R__law_num B D__law_gcd
  have R__law_number : Raw K mg "_law_number" s__law_number := ⟨_, _, fun_mk (st := s__law_number) l__law_number c__law_number k__law_number, PySem.W.mg_of X G a__law_number⟩
  have D__law_number := d__law_number (P := l.prog) (w := w) (base := base) R__law_number  D__law_draw D__law_num
  have R__law_great : Raw K mg "_law_great" s__law_great := ⟨_, _, fun_mk (st := s__law_great) l__law_great c__law_great k__law_great, PySem.W.mg_of X G a__law_great⟩
  have D__law_great := d__law_great (P := l.prog) (w := w) (base := base) R__law_great B D__law_num D__law_number D__law_draw
  have R__law_odd_pair : Raw K mg "_law_odd_pair" s__law_odd_pair := ⟨_, _, fun_mk (st := s__law_odd_pair) l__law_odd_pair c__law_odd_pair k__law_odd_pair, PySem.W.mg_of X G a__law_odd_pair⟩
  have D__law_odd_pair := d__law_odd_pair (P := l.prog) (w := w) (base := base) R__law_odd_pair  D__law_any
  have R__law_is_number : Raw K mg "_law_is_number" s__law_is_number := ⟨_, _, fun_mk (st := s__law_is_number) l__law_is_number c__law_is_number k__law_is_number, PySem.W.mg_of X G a__law_is_number⟩
  have D__law_is_number := d__law_is_number (P := l.prog) (w := w) (base := base) R__law_is_number  D__law_gcd
  have R__law_int : Raw K mg "_law_int" s__law_int := ⟨_, _, fun_mk (st := s__law_int) l__law_int c__law_int k__law_int, PySem.W.mg_of X G a__law_int⟩
  have D__law_int := d__law_int (P := l.prog) (w := w) (base := base) R__law_int B 
  have F__law_like := fun_mk (st := s__law_like) l__law_like c__law_like k__law_like
  have m__law_like := PySem.W.mg_of X G a__law_like
  have D__law_like := like_ok (P := l.prog) (w := w) (base := base) F__law_like m__law_like B D__law_int
  have b__law_like := F__law_like.binds (ps := ["_law_found", "_law_due"]) fun _ _ _ _ _ _ us hl => match us, hl with | [_, _], _ => rfl
  have R__law_plus : Raw K mg "_law_plus" s__law_plus := ⟨_, _, fun_mk (st := s__law_plus) l__law_plus c__law_plus k__law_plus, PySem.W.mg_of X G a__law_plus⟩
  have D__law_plus := d__law_plus (P := l.prog) (w := w) (base := base) R__law_plus  D__law_num
  have R__law_times : Raw K mg "_law_times" s__law_times := ⟨_, _, fun_mk (st := s__law_times) l__law_times c__law_times k__law_times, PySem.W.mg_of X G a__law_times⟩
  have D__law_times := d__law_times (P := l.prog) (w := w) (base := base) R__law_times  D__law_num
  have R__law_less : Raw K mg "_law_less" s__law_less := ⟨_, _, fun_mk (st := s__law_less) l__law_less c__law_less k__law_less, PySem.W.mg_of X G a__law_less⟩
  have D__law_less := d__law_less (P := l.prog) (w := w) (base := base) R__law_less  
  have R__law_over : Raw K mg "_law_over" s__law_over := ⟨_, _, fun_mk (st := s__law_over) l__law_over c__law_over k__law_over, PySem.W.mg_of X G a__law_over⟩
  have D__law_over := d__law_over (P := l.prog) (w := w) (base := base) R__law_over  D__law_num
  have R_is_field : Raw K mg "is_field" s_is_field := ⟨_, _, fun_mk (st := s_is_field) l_is_field c_is_field k_is_field, PySem.W.mg_of X G a_is_field⟩
  have D_is_field := d_is_field (P := l.prog) (w := w) (base := base) R_is_field TF 
  have R_check_field : Raw K mg "check_field" s_check_field := ⟨_, _, fun_mk (st := s_check_field) l_check_field c_check_field k_check_field, PySem.W.mg_of X G a_check_field⟩
  have D_check_field := d_check_field (P := l.prog) (w := w) (base := base) (CW := CW) (fI := fI) R_check_field  D_is_field E_BadField G_init
  have R_fits : Raw K mg "fits" s_fits := ⟨_, _, fun_mk (st := s_fits) l_fits c_fits k_fits, PySem.W.mg_of X G a_fits⟩
  have D_fits := d_fits (P := l.prog) (w := w) (base := base) R_fits B 
  have R_check_numbers : Raw K mg "check_numbers" s_check_numbers := ⟨_, _, fun_mk (st := s_check_numbers) l_check_numbers c_check_numbers k_check_numbers, PySem.W.mg_of X G a_check_numbers⟩
  have D_check_numbers := d_check_numbers (P := l.prog) (w := w) (base := base) (CW := CW) (fI := fI) R_check_numbers B D_fits E_BadNumber G_init
  have R_added : Raw K mg "added" s_added := ⟨_, _, fun_mk (st := s_added) l_added c_added k_added, PySem.W.mg_of X G a_added⟩
  have D_added := d_added (P := l.prog) (w := w) (base := base) R_added B 
  have R_plus : Raw K mg "plus" s_plus := ⟨_, _, fun_mk (st := s_plus) l_plus c_plus k_plus, PySem.W.mg_of X G a_plus⟩
  have D_plus := d_plus (P := l.prog) (w := w) (base := base) (CW := CW) (fI := fI) R_plus  D_check_field D_check_numbers D_added 
  have R_inverse : Raw K mg "inverse" s_inverse := ⟨_, _, fun_mk (st := s_inverse) l_inverse c_inverse k_inverse, PySem.W.mg_of X G a_inverse⟩
  have D_inverse := d_inverse (P := l.prog) (w := w) (base := base) R_inverse B 
  have R_lowest : Raw K mg "lowest" s_lowest := ⟨_, _, fun_mk (st := s_lowest) l_lowest c_lowest k_lowest, PySem.W.mg_of X G a_lowest⟩
  have D_lowest := d_lowest (P := l.prog) (w := w) (base := base) R_lowest B D_inverse
  have R_multiplied : Raw K mg "multiplied" s_multiplied := ⟨_, _, fun_mk (st := s_multiplied) l_multiplied c_multiplied k_multiplied, PySem.W.mg_of X G a_multiplied⟩
  have D_multiplied := d_multiplied (P := l.prog) (w := w) (base := base) R_multiplied  D_lowest
  have R_times : Raw K mg "times" s_times := ⟨_, _, fun_mk (st := s_times) l_times c_times k_times, PySem.W.mg_of X G a_times⟩
  have D_times := d_times (P := l.prog) (w := w) (base := base) (CW := CW) (fI := fI) R_times  D_check_field D_check_numbers D_multiplied 
  have R_negative : Raw K mg "negative" s_negative := ⟨_, _, fun_mk (st := s_negative) l_negative c_negative k_negative, PySem.W.mg_of X G a_negative⟩
  have D_negative := d_negative (P := l.prog) (w := w) (base := base) R_negative  
  have R_less : Raw K mg "less" s_less := ⟨_, _, fun_mk (st := s_less) l_less c_less k_less, PySem.W.mg_of X G a_less⟩
  have D_less := d_less (P := l.prog) (w := w) (base := base) (CW := CW) (fI := fI) R_less  D_check_field D_check_numbers D_negative 
  have R_is_nought : Raw K mg "is_nought" s_is_nought := ⟨_, _, fun_mk (st := s_is_nought) l_is_nought c_is_nought k_is_nought, PySem.W.mg_of X G a_is_nought⟩
  have D_is_nought := d_is_nought (P := l.prog) (w := w) (base := base) R_is_nought  
  have R_flipped : Raw K mg "flipped" s_flipped := ⟨_, _, fun_mk (st := s_flipped) l_flipped c_flipped k_flipped, PySem.W.mg_of X G a_flipped⟩
  have D_flipped := d_flipped (P := l.prog) (w := w) (base := base) R_flipped  D_lowest
  have R_over : Raw K mg "over" s_over := ⟨_, _, fun_mk (st := s_over) l_over c_over k_over, PySem.W.mg_of X G a_over⟩
  have D_over := d_over (P := l.prog) (w := w) (base := base) (CW := CW) (fI := fI) R_over  D_check_field D_check_numbers D_is_nought D_flipped E_Nought G_init
  have Wb := (fun_mk (st := s__law_why) l__law_why c__law_why k__law_why).binds (ps := ["_law_ask"]) fun _ _ _ _ _ _ us hl => match us, hl with | [_], _ => rfl
  have W : WhyAt K mg f__law_why oc__law_why od__law_why kV__law_why dc__law_why pm__law_why an__law_why cd__law_why ct__law_why sl__law_why := ⟨PySem.W.mg_of X G a__law_why, k__law_why, l__law_why, c__law_why, Wb⟩
  exact law_ok l_law c_law TB B W mW mM D__law_open D__law_field D__law_great D__law_draw D__law_odd_pair D__law_is_number True.intro ⟨D__law_like, m__law_like, k__law_like, b__law_like⟩ D__law_plus D__law_times D__law_less D__law_over D_plus D_times D_less D_over
end St
open PySem PySem.W PyProof.Rows
set_option maxRecDepth 100000 in
set_option maxHeartbeats 0 in
theorem PySem.Challenge.cw_stalkweb_k02_sums_and_products_holds : PySem.Challenge.rw_stalkweb_k02_sums_and_products.Holds := by
  w_on; o_law; k_head; (case hw => w_witness2)
  k_fill
  refine LamX.walk_ofOwn (l := PySem.Challenge.rw_stalkweb_k02_sums_and_products) (n := 63) (k := 8) (x := "_law_script") (CX := fun _ => L2.CX0) rfl (by decide) rfl ⟨rfl, by decide, by decide⟩ (by decide +kernel) (fun w h Y => PySem.W.km_in_of Y) ?F (fun _ _ _ _ _ h => h)
  case F =>
    intro w mg fa h Y KX G hmg OT
    refine' St.all_mk KX G hmg OT ?a__law_open ?l__law_open ?c__law_open ?k__law_open ?a__law_draw ?l__law_draw ?c__law_draw ?k__law_draw ?a__law_any ?l__law_any ?c__law_any ?k__law_any ?a__law_primes ?l__law_primes ?c__law_primes ?k__law_primes ?a__law_field ?l__law_field ?c__law_field ?k__law_field ?a__law_gcd ?l__law_gcd ?c__law_gcd ?k__law_gcd ?a__law_num ?l__law_num ?c__law_num ?k__law_num ?a__law_number ?l__law_number ?c__law_number ?k__law_number ?a__law_great ?l__law_great ?c__law_great ?k__law_great ?a__law_odd_pair ?l__law_odd_pair ?c__law_odd_pair ?k__law_odd_pair ?a__law_is_number ?l__law_is_number ?c__law_is_number ?k__law_is_number ?a__law_why ?l__law_why ?c__law_why ?k__law_why ?a__law_int ?l__law_int ?c__law_int ?k__law_int ?a__law_like ?l__law_like ?c__law_like ?k__law_like ?a__law_plus ?l__law_plus ?c__law_plus ?k__law_plus ?a__law_times ?l__law_times ?c__law_times ?k__law_times ?a__law_less ?l__law_less ?c__law_less ?k__law_less ?a__law_over ?l__law_over ?c__law_over ?k__law_over ?a_is_field ?l_is_field ?c_is_field ?k_is_field ?a_check_field ?l_check_field ?c_check_field ?k_check_field ?a_fits ?l_fits ?c_fits ?k_fits ?a_check_numbers ?l_check_numbers ?c_check_numbers ?k_check_numbers ?a_added ?l_added ?c_added ?k_added ?a_plus ?l_plus ?c_plus ?k_plus ?a_inverse ?l_inverse ?c_inverse ?k_inverse ?a_lowest ?l_lowest ?c_lowest ?k_lowest ?a_multiplied ?l_multiplied ?c_multiplied ?k_multiplied ?a_times ?l_times ?c_times ?k_times ?a_negative ?l_negative ?c_negative ?k_negative ?a_less ?l_less ?c_less ?k_less ?a_is_nought ?l_is_nought ?c_is_nought ?k_is_nought ?a_flipped ?l_flipped ?c_flipped ?k_flipped ?a_over ?l_over ?c_over ?k_over ?a_law ?l_law ?c_law ?k_law ?z_len ?z_range ?z_all ?z_abs ?z_list ?z_isinstance ?z_int ?z_bool ?z_str ?z_tuple ?z_ValueError ?z_gcd ?a_FIELDS ?l_FIELDS ?v_FIELDS ?l_code ?v_11 ?v_g11 ?v_18 ?v_7 ?v_9 ?v_10 ?n_cP ?n_PT ?a_WebError ?a_Missing ?s_W ?i_W ?y_W ?i_I ?l_I ?c_I ?k_I ?y_I ?t_I ?v_V ?n_cg ?t_cg ?a_BadField ?x_BadField ?r_BadField ?w_BadField ?n_BadField ?sa_BadField ?ga_BadField ?gg_BadField ?xc_BadField ?y_BadField ?k_BadField ?d_BadField ?c_BadField ?m_BadField ?rd_BadField ?f_BadField ?o_BadField ?i_BadField ?s_BadField ?a_BadNumber ?x_BadNumber ?r_BadNumber ?w_BadNumber ?n_BadNumber ?sa_BadNumber ?ga_BadNumber ?gg_BadNumber ?xc_BadNumber ?y_BadNumber ?k_BadNumber ?d_BadNumber ?c_BadNumber ?m_BadNumber ?rd_BadNumber ?f_BadNumber ?o_BadNumber ?i_BadNumber ?s_BadNumber ?a_Nought ?x_Nought ?r_Nought ?w_Nought ?n_Nought ?sa_Nought ?ga_Nought ?gg_Nought ?xc_Nought ?y_Nought ?k_Nought ?d_Nought ?c_Nought ?m_Nought ?rd_Nought ?f_Nought ?o_Nought ?i_Nought ?s_Nought
    (case a__law_open => k_is)
    (case l__law_open => k_is)
    (case c__law_open => k_is)
    (case k__law_open => k_is)
    (case a__law_draw => k_is)
    (case l__law_draw => k_is)
    (case c__law_draw => k_is)
    (case k__law_draw => k_is)
    (case a__law_any => k_is)
    (case l__law_any => k_is)
    (case c__law_any => k_is)
    (case k__law_any => k_is)
    (case a__law_primes => k_is)
    (case l__law_primes => k_is)
    (case c__law_primes => k_is)
    (case k__law_primes => k_is)
    (case a__law_field => k_is)
    (case l__law_field => k_is)
    (case c__law_field => k_is)
    (case k__law_field => k_is)
    (case a__law_gcd => k_is)
    (case l__law_gcd => k_is)
    (case c__law_gcd => k_is)
    (case k__law_gcd => k_is)
    (case a__law_num => k_is)
    (case l__law_num => k_is)
    (case c__law_num => k_is)
    (case k__law_num => k_is)
    (case a__law_number => k_is)
    (case l__law_number => k_is)
    (case c__law_number => k_is)
    (case k__law_number => k_is)
    (case a__law_great => k_is)
    (case l__law_great => k_is)
    (case c__law_great => k_is)
    (case k__law_great => k_is)
    (case a__law_odd_pair => k_is)
    (case l__law_odd_pair => k_is)
    (case c__law_odd_pair => k_is)
    (case k__law_odd_pair => k_is)
    (case a__law_is_number => k_is)
    (case l__law_is_number => k_is)
    (case c__law_is_number => k_is)
    (case k__law_is_number => k_is)
    (case a__law_why => k_is)
    (case l__law_why => k_is)
    (case c__law_why => k_is)
    (case k__law_why => k_is)
    (case a__law_int => k_is)
    (case l__law_int => k_is)
    (case c__law_int => k_is)
    (case k__law_int => k_is)
    (case a__law_like => k_is)
    (case l__law_like => k_is)
    (case c__law_like => k_is)
    (case k__law_like => k_is)
    (case a__law_plus => k_is)
    (case l__law_plus => k_is)
    (case c__law_plus => k_is)
    (case k__law_plus => k_is)
    (case a__law_times => k_is)
    (case l__law_times => k_is)
    (case c__law_times => k_is)
    (case k__law_times => k_is)
    (case a__law_less => k_is)
    (case l__law_less => k_is)
    (case c__law_less => k_is)
    (case k__law_less => k_is)
    (case a__law_over => k_is)
    (case l__law_over => k_is)
    (case c__law_over => k_is)
    (case k__law_over => k_is)
    (case a_is_field => k_is)
    (case l_is_field => k_is)
    (case c_is_field => k_is)
    (case k_is_field => k_is)
    (case a_check_field => k_is)
    (case l_check_field => k_is)
    (case c_check_field => k_is)
    (case k_check_field => k_is)
    (case a_fits => k_is)
    (case l_fits => k_is)
    (case c_fits => k_is)
    (case k_fits => k_is)
    (case a_check_numbers => k_is)
    (case l_check_numbers => k_is)
    (case c_check_numbers => k_is)
    (case k_check_numbers => k_is)
    (case a_added => k_is)
    (case l_added => k_is)
    (case c_added => k_is)
    (case k_added => k_is)
    (case a_plus => k_is)
    (case l_plus => k_is)
    (case c_plus => k_is)
    (case k_plus => k_is)
    (case a_inverse => k_is)
    (case l_inverse => k_is)
    (case c_inverse => k_is)
    (case k_inverse => k_is)
    (case a_lowest => k_is)
    (case l_lowest => k_is)
    (case c_lowest => k_is)
    (case k_lowest => k_is)
    (case a_multiplied => k_is)
    (case l_multiplied => k_is)
    (case c_multiplied => k_is)
    (case k_multiplied => k_is)
    (case a_times => k_is)
    (case l_times => k_is)
    (case c_times => k_is)
    (case k_times => k_is)
    (case a_negative => k_is)
    (case l_negative => k_is)
    (case c_negative => k_is)
    (case k_negative => k_is)
    (case a_less => k_is)
    (case l_less => k_is)
    (case c_less => k_is)
    (case k_less => k_is)
    (case a_is_nought => k_is)
    (case l_is_nought => k_is)
    (case c_is_nought => k_is)
    (case k_is_nought => k_is)
    (case a_flipped => k_is)
    (case l_flipped => k_is)
    (case c_flipped => k_is)
    (case k_flipped => k_is)
    (case a_over => k_is)
    (case l_over => k_is)
    (case c_over => k_is)
    (case k_over => k_is)
    (case a_law => k_is)
    (case l_law => k_is)
    (case c_law => k_is)
    (case k_law => k_is)
    (case z_len => k_is)
    (case z_range => k_is)
    (case z_all => k_is)
    (case z_abs => k_is)
    (case z_list => k_is)
    (case z_isinstance => k_is)
    (case z_int => k_is)
    (case z_bool => k_is)
    (case z_str => k_is)
    (case z_tuple => k_is)
    (case z_ValueError => k_is)
    (case z_gcd => k_is)
    (case a_FIELDS => k_is)
    (case l_FIELDS => k_is)
    (case l_code => k_is)
    (case a_WebError => k_is)
    (case a_Missing => k_is)
    (case s_W => k_is)
    (case i_W => k_is)
    (case y_W => k_is)
    (case i_I => k_is)
    (case l_I => k_is)
    (case c_I => k_is)
    (case k_I => k_is)
    (case y_I => k_is)
    (case v_V => k_is)
    (case n_cg => k_is)
    (case t_cg => k_is)
    (case a_BadField => k_is)
    (case x_BadField => k_is)
    (case sa_BadField => k_is)
    (case ga_BadField => k_is)
    (case gg_BadField => k_is)
    (case xc_BadField => k_is)
    (case y_BadField => k_is)
    (case k_BadField => k_is)
    (case d_BadField => k_is)
    (case c_BadField => k_is)
    (case m_BadField => k_is)
    (case rd_BadField => k_is)
    (case f_BadField => k_is)
    (case o_BadField => k_is)
    (case i_BadField => k_is)
    (case s_BadField => k_is)
    (case a_BadNumber => k_is)
    (case x_BadNumber => k_is)
    (case sa_BadNumber => k_is)
    (case ga_BadNumber => k_is)
    (case gg_BadNumber => k_is)
    (case xc_BadNumber => k_is)
    (case y_BadNumber => k_is)
    (case k_BadNumber => k_is)
    (case d_BadNumber => k_is)
    (case c_BadNumber => k_is)
    (case m_BadNumber => k_is)
    (case rd_BadNumber => k_is)
    (case f_BadNumber => k_is)
    (case o_BadNumber => k_is)
    (case i_BadNumber => k_is)
    (case s_BadNumber => k_is)
    (case a_Nought => k_is)
    (case x_Nought => k_is)
    (case sa_Nought => k_is)
    (case ga_Nought => k_is)
    (case gg_Nought => k_is)
    (case xc_Nought => k_is)
    (case y_Nought => k_is)
    (case k_Nought => k_is)
    (case d_Nought => k_is)
    (case c_Nought => k_is)
    (case m_Nought => k_is)
    (case rd_Nought => k_is)
    (case f_Nought => k_is)
    (case o_Nought => k_is)
    (case i_Nought => k_is)
    (case s_Nought => k_is)
    (case v_FIELDS => repeat (first | exact .nil | refine .cons ⟨_, rfl⟩ ?_))
    (case v_11 => rfl)
    (case v_g11 => rfl)
    (case v_18 => rfl)
    (case v_7 => rfl)
    (case v_9 => rfl)
    (case v_10 => rfl)
    (case n_cP => decide)
    (case n_PT => first | rfl | k_is | decide +kernel)
    (case t_I => exact .inr ⟨by simp, _, _, _, _, rfl, (by k_is), rfl, .cons ⟨_, rfl⟩ .nil⟩)
    (case r_BadField => decide +kernel)
    (case w_BadField => decide +kernel)
    (case n_BadField => decide +kernel)
    (case r_BadNumber => decide +kernel)
    (case w_BadNumber => decide +kernel)
    (case n_BadNumber => decide +kernel)
    (case r_Nought => decide +kernel)
    (case w_Nought => decide +kernel)
    (case n_Nought => decide +kernel)
