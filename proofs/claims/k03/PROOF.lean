import PyProof.Rows.All
import Wide.All
import OpenK.AllK
import Wide.FinOn
import HandS.ForMost
import HandS.ForExc
import HandS.Gcd
import HandS.Wide
import HandS.NoneIn
import HandS.Defaults
import HandS.Conv
import HandS.Style
import HandS.Zip
import HandS.Walk
import KE.GoesNew
import HandS.IsInst
import HandS.ExcInit
import HandS.ExcIs
import HandS.ExcField
import HandS.TryMany
import HandS.Lambda
import HandS.EndTab
import HandS.EndOwn
import KE.KTypeName
import PySem.Challenge.RW_stalkweb_k03_whole_numbers_make_a_field
set_option Elab.async false
set_option linter.all false
set_option maxRecDepth 100000
set_option maxHeartbeats 400000
/-! Numbers of a field, in plain Lean: pairs as the program reckons them, and the field that they encode. -/
namespace St
open Lean.Grind
/-! ### the program's reckoning -/
abbrev Pr := Int × Int
def primesN : List Nat := [2, 3, 5, 7, 11, 13, 17, 19, 23, 29, 31, 37, 41, 43, 47, 53, 59, 61, 67, 71, 73, 79, 83, 89, 97]
def IsF (f : Int) : Prop := f = 0 ∨ ∃ p ∈ primesN, f = (p : Int)
def IsN (f : Int) (q : Pr) : Prop := (f = 0 ∧ 1 ≤ q.2 ∧ Int.gcd q.1 q.2 = 1) ∨ (f ≠ 0 ∧ q.2 = 1 ∧ 0 ≤ q.1 ∧ q.1 < f)
/-- the n-fold product, by steps -/
def powm (p b : Int) : Nat → Int
  | 0 => 1
  | n + 1 => powm p b n * b % p
def powN (p b : Nat) : Nat → Nat
  | 0 => 1
  | n + 1 => powN p b n * b % p
theorem powm_cast (p b : Nat) : ∀ n, powm p b n = (powN p b n : Int)
  | 0 => rfl
  | n + 1 => by
    show powm p b n * b % p = ((powN p b n * b % p : Nat) : Int)
    rw [powm_cast p b n]
    simp
def gOf (t b : Int) : Int := if b < 0 then -((Nat.gcd t.natAbs b.natAbs : Nat) : Int) else ((Nat.gcd t.natAbs b.natAbs : Nat) : Int)
def low (f t b : Int) : Pr := if f ≠ 0 then (t % f * powm f (b % f) (f - 2).toNat % f, 1) else (t.fdiv (gOf t b), b.fdiv (gOf t b))
def addN (f : Int) (p q : Pr) : Pr := if f ≠ 0 then ((p.1 + q.1) % f, 1) else low f (p.1 * q.2 + q.1 * p.2) (p.2 * q.2)
def mulN (f : Int) (p q : Pr) : Pr := if f ≠ 0 then (p.1 * q.1 % f, 1) else low f (p.1 * q.1) (p.2 * q.2)
def negN (f : Int) (p : Pr) : Pr := if f ≠ 0 then (-p.1 % f, 1) else (-p.1, p.2)
def invN (f : Int) (p : Pr) : Pr := low f p.2 p.1
/-! ### a field made of a commutative ring and inverses -/
def mkZpow {F : Type} [CommRing F] (inv : F → F) (a : F) : Int → F
  | .ofNat n => a ^ n
  | .negSucc n => inv (a ^ (n + 1))
theorem inv_uniq {F : Type} [CommRing F] {a b c : F} (h1 : a * b = 1) (h2 : a * c = 1) : b = c := by grind
section
variable {F : Type} [R : CommRing F] (inv : F → F)
theorem inv_one' (h01 : (0 : F) ≠ 1) (hm : ∀ a : F, a ≠ 0 → a * inv a = 1) : inv 1 = 1 := by
  have h := hm 1 (fun e => h01 e.symm)
  rw [Semiring.one_mul] at h
  exact h
theorem inv_inv' (h01 : (0 : F) ≠ 1) (h0 : inv 0 = 0) (hm : ∀ a : F, a ≠ 0 → a * inv a = 1) (a : F) : inv (inv a) = a := by
  by_cases ha : a = 0
  · rw [ha, h0, h0]
  · have h1 := hm a ha
    have hne : inv a ≠ 0 := fun e => by
      rw [e] at h1
      grind
    have h2 := hm (inv a) hne
    exact inv_uniq (a := inv a) h2 (by grind)
theorem zpow_neg' (h01 : (0 : F) ≠ 1) (h0 : inv 0 = 0) (hm : ∀ a : F, a ≠ 0 → a * inv a = 1) (a : F) (n : Int) : mkZpow inv a (-n) = inv (mkZpow inv a n) := by
  match n with
  | .ofNat 0 =>
    have e : a ^ 0 = 1 := Semiring.pow_zero a
    show a ^ 0 = inv (a ^ 0)
    rw [e, inv_one' inv h01 hm]
  | .ofNat (k + 1) => rfl
  | .negSucc k =>
    show a ^ (k + 1) = inv (inv (a ^ (k + 1)))
    rw [inv_inv' inv h01 h0 hm]
end
@[reducible] def mkField {F : Type} (R : CommRing F) (inv : F → F) (h01 : (0 : F) ≠ 1) (h0 : inv 0 = 0) (hm : ∀ a : F, a ≠ 0 → a * inv a = 1) : Field F :=
  letI z : HPow F Int F := ⟨fun a n => mkZpow inv a n⟩
  { R with
    inv := inv
    div := fun a b => a * inv b
    zpow := z
    div_eq_mul_inv := fun _ _ => rfl
    zero_ne_one := h01
    inv_zero := h0
    mul_inv_cancel := fun {a} ha => hm a ha
    zpow_zero := fun a => Semiring.pow_zero a
    zpow_succ := fun a n => Semiring.pow_succ a n
    zpow_neg := fun a n => zpow_neg' inv h01 h0 hm a n }
/-! ### the field of a number f -/
structure Fd (f : Int) where
  F : Type
  fld : Field F
  dec : DecidableEq F
  enc : F → Pr
  inj : ∀ x y, enc x = enc y → x = y
  num : ∀ x, IsN f (enc x)
  sur : ∀ p, IsN f p → ∃ x, enc x = p
  zero : enc 0 = (0, 1)
  one : enc 1 = (1, 1)
  add : ∀ x y, enc (x + y) = addN f (enc x) (enc y)
  mul : ∀ x y, enc (x * y) = mulN f (enc x) (enc y)
  neg : ∀ x, enc (-x) = negN f (enc x)
  inv : ∀ x, x ≠ 0 → enc (x⁻¹) = invN f (enc x)
  /-- whole numbers -/
  ofI : Int → F
  low : ∀ t b, ofI b ≠ 0 → enc (ofI t * (ofI b)⁻¹) = low f t b
  ofI0 : ∀ b, ofI b = 0 ↔ (if f = 0 then b = 0 else b % f = 0)
  ofI_add : ∀ s t, ofI (s + t) = ofI s + ofI t
  ofI_mul : ∀ s t, ofI (s * t) = ofI s * ofI t
  ofI_one : ofI 1 = 1
  encI : ∀ z, enc (ofI z) = if f = 0 then (z, 1) else (z % f, 1)
/-! ### fractions -/
theorem low0 (t b : Int) (hb : b ≠ 0) : low 0 t b = ((Rat.divInt t b).num, ((Rat.divInt t b).den : Int)) := by
  have hg : (Nat.gcd t.natAbs b.natAbs : Nat) ≠ 0 := by
    intro h
    rw [Nat.gcd_eq_zero_iff] at h
    omega
  have h1 : ((Nat.gcd t.natAbs b.natAbs : Nat) : Int) ∣ t := by
    rw [Int.ofNat_dvd_left]
    exact Nat.gcd_dvd_left _ _
  have h2 : ((Nat.gcd t.natAbs b.natAbs : Nat) : Int) ∣ b := by
    rw [Int.ofNat_dvd_left]
    exact Nat.gcd_dvd_right _ _
  have e : b.gcd t = Nat.gcd t.natAbs b.natAbs := by rw [Int.gcd_comm]; rfl
  rw [Rat.num_divInt, Rat.den_divInt, if_neg hb, e]
  show (if (0 : Int) ≠ 0 then _ else (t.fdiv (gOf t b), b.fdiv (gOf t b))) = _
  rw [if_neg (by simp)]
  unfold gOf
  generalize Nat.gcd t.natAbs b.natAbs = g at *
  obtain ⟨u, hu⟩ := h1
  obtain ⟨v, hv⟩ := h2
  have hg' : (g : Int) ≠ 0 := by omega
  have hgp : (0 : Int) < g := by omega
  subst hu
  subst hv
  have d1 : ∀ z : Int, (g * z).fdiv g = z := fun z => by rw [Int.mul_comm]; exact Int.mul_fdiv_cancel _ hg'
  have d2 : ∀ z : Int, (g * z).fdiv (-g) = -z := fun z => by
    have e : (g : Int) * z = -z * -g := by rw [Int.neg_mul_neg, Int.mul_comm]
    rw [e]
    exact Int.mul_fdiv_cancel _ (by omega)
  have hv0 : v ≠ 0 := fun h => by simp [h] at hb
  have nb : ((g * v : Int).natAbs / g : Nat) = v.natAbs := by
    rw [Int.natAbs_mul, Int.natAbs_natCast]
    exact Nat.mul_div_cancel_left _ (by omega)
  by_cases h : (g : Int) * v < 0
  · have hvn : v < 0 := by
      rcases Int.lt_or_gt_of_ne hv0 with h' | h'
      · exact h'
      · have := Int.mul_pos hgp h'
        omega
    rw [if_pos h, d2, d2, Int.sign_eq_neg_one_of_neg h, nb]
    have : -1 * (↑g * u) / (g : Int) = -u := by
      rw [show -1 * ((g : Int) * u) = g * (-u) by grind]
      exact Int.mul_ediv_cancel_left _ hg'
    rw [this]
    congr 1
    omega
  · have hvp : 0 < v := by
      rcases Int.lt_or_gt_of_ne hv0 with h' | h'
      · have := Int.mul_neg_of_pos_of_neg hgp h'
        omega
      · exact h'
    have hp : 0 < (g : Int) * v := Int.mul_pos hgp hvp
    rw [if_neg h, d1, d1, Int.sign_eq_one_of_pos hp, nb]
    have : 1 * (↑g * u) / (g : Int) = u := by
      rw [Int.one_mul]
      exact Int.mul_ediv_cancel_left _ hg'
    rw [this]
    congr 1
    omega
def encQ (r : Rat) : Pr := (r.num, (r.den : Int))
theorem encQ_low {t b : Int} (hb : b ≠ 0) : encQ (Rat.divInt t b) = low 0 t b := (low0 t b hb).symm
theorem encQ_self (r : Rat) : r = Rat.divInt r.num r.den := (Rat.num_divInt_den r).symm
theorem den_ne (r : Rat) : ((r.den : Nat) : Int) ≠ 0 := by
  have := r.den_nz
  omega
def fdQ : Fd 0 where
  F := Rat
  fld := inferInstance
  dec := inferInstance
  enc := encQ
  inj := fun x y h => by
    have h1 : x.num = y.num := congrArg Prod.fst h
    have h2 : (x.den : Int) = y.den := congrArg Prod.snd h
    exact Rat.ext h1 (by omega)
  num := fun x => Or.inl ⟨rfl, by
    have := x.den_nz
    show (1 : Int) ≤ (x.den : Int)
    omega, x.reduced⟩
  sur := fun p h => by
    rcases h with ⟨_, h1, h2⟩ | ⟨h, _⟩
    · have e : ((p.2.toNat : Nat) : Int) = p.2 := Int.toNat_of_nonneg (by omega)
      refine ⟨⟨p.1, p.2.toNat, by omega, ?_⟩, ?_⟩
      · have : p.2.natAbs = p.2.toNat := by omega
        rw [← this]
        exact h2
      · show ((p.1, ((p.2.toNat : Nat) : Int)) : Pr) = p
        rw [e]
    · exact absurd rfl h
  zero := rfl
  one := rfl
  add := fun x y => by
    have e : x + y = Rat.divInt (x.num * y.den + y.num * x.den) (x.den * y.den) := by
      conv => lhs; rw [encQ_self x, encQ_self y]
      exact Rat.divInt_add_divInt _ _ (den_ne x) (den_ne y)
    rw [e, encQ_low (Int.mul_ne_zero (den_ne x) (den_ne y))]
    rfl
  mul := fun x y => by
    have e : x * y = Rat.divInt (x.num * y.num) (x.den * y.den) := by
      conv => lhs; rw [encQ_self x, encQ_self y]
      exact Rat.divInt_mul_divInt _ _
    rw [e, encQ_low (Int.mul_ne_zero (den_ne x) (den_ne y))]
    rfl
  neg := fun x => rfl
  inv := fun x hx => by
    have e : x⁻¹ = Rat.divInt x.den x.num := by
      conv => lhs; rw [encQ_self x]
      exact Rat.inv_divInt _ _
    have hn : x.num ≠ 0 := fun h => hx (Rat.num_eq_zero.mp h)
    rw [e, encQ_low hn]
    rfl
  ofI := fun t => (t : Rat)
  low := fun t b hb => by
    have hb' : b ≠ 0 := fun h => hb (by rw [h]; rfl)
    rw [← encQ_low hb', Rat.divInt_eq_div, Rat.div_def]
  ofI0 := fun b => by simp
  ofI_add := fun s t => Rat.intCast_add s t
  ofI_mul := fun s t => Rat.intCast_mul s t
  ofI_one := rfl
  encI := fun z => by
    rw [if_pos rfl]
    rfl
/-! ### sums of fractions, by what both bottoms share -/
theorem fdiv_nat (a b : Nat) : ((a : Int).fdiv (b : Int)) = ((a / b : Nat) : Int) := by
  rw [Int.fdiv_eq_ediv_of_nonneg _ (by omega)]; rfl
def shB (p q : Pr) : Int := ((Nat.gcd p.2.natAbs q.2.natAbs : Nat) : Int)
def paB (p q : Pr) : Int := p.2.fdiv (shB p q)
def toB (p q : Pr) : Int := p.1 * q.2.fdiv (shB p q) + q.1 * paB p q
def coB (p q : Pr) : Int := ((Nat.gcd (toB p q).natAbs (shB p q).natAbs : Nat) : Int)
theorem add_lean {p q : Pr} (hp : IsN 0 p) (hq : IsN 0 q) : addN 0 p q = ((toB p q).fdiv (coB p q), paB p q * q.2.fdiv (coB p q)) := by
  obtain ⟨x, rfl⟩ : ∃ x : Rat, encQ x = p := fdQ.sur p hp
  obtain ⟨y, rfl⟩ : ∃ x : Rat, encQ x = q := fdQ.sur q hq
  have x0 := x.den_nz
  have y0 := y.den_nz
  change addN 0 (encQ x) (encQ y) = ((toB (encQ x) (encQ y)).fdiv (coB (encQ x) (encQ y)), paB (encQ x) (encQ y) * ((y.den : Int)).fdiv (coB (encQ x) (encQ y)))
  have es : shB (encQ x) (encQ y) = ((Nat.gcd x.den y.den : Nat) : Int) := by
    unfold shB encQ
    simp
  have hg0 : 0 < Nat.gcd x.den y.den := Nat.gcd_pos_of_pos_left _ (by omega)
  have hx := Nat.gcd_dvd_left x.den y.den
  have hy := Nat.gcd_dvd_right x.den y.den
  have ep : paB (encQ x) (encQ y) = ((x.den / Nat.gcd x.den y.den : Nat) : Int) := by
    unfold paB
    rw [es]
    exact fdiv_nat _ _
  have et : toB (encQ x) (encQ y) = x.num * ((y.den / Nat.gcd x.den y.den : Nat) : Int) + y.num * ((x.den / Nat.gcd x.den y.den : Nat) : Int) := by
    unfold toB
    rw [es, ep]
    show x.num * ((y.den : Int)).fdiv _ + _ = _
    rw [fdiv_nat]
    rfl
  have aux := @Rat.add.aux x y _ _ _ rfl rfl rfl
  have ec : coB (encQ x) (encQ y) = ((Nat.gcd (x.num * ((y.den / Nat.gcd x.den y.den : Nat) : Int) + y.num * ((x.den / Nat.gcd x.den y.den : Nat) : Int)).natAbs (Nat.gcd x.den y.den) : Nat) : Int) := by
    unfold coB
    rw [et, es]
    rfl
  simp only at aux
  generalize ht : x.num * ((y.den / Nat.gcd x.den y.den : Nat) : Int) + y.num * ((x.den / Nat.gcd x.den y.den : Nat) : Int) = t at *
  have hB : ((x.den / Nat.gcd x.den y.den * y.den : Nat) : Int) ≠ 0 := by
    have : 0 < x.den / Nat.gcd x.den y.den := Nat.div_pos (Nat.le_of_dvd (by omega) hx) hg0
    have := Nat.mul_pos this (by omega : 0 < y.den)
    omega
  have e1 : addN 0 (encQ x) (encQ y) = low 0 t ((x.den / Nat.gcd x.den y.den * y.den : Nat) : Int) := by
    unfold addN
    rw [if_neg (by simp)]
    have hB0 := Int.mul_ne_zero (den_ne x) (den_ne y)
    change ((encQ x).2 * (encQ y).2 : Int) ≠ 0 at hB0
    have k1 : (encQ x).1 * (encQ y).2 + (encQ y).1 * (encQ x).2 = (Nat.gcd x.den y.den : Int) * t := by
      rw [← ht]
      show x.num * (y.den : Int) + y.num * (x.den : Int) = _
      have a1 : (x.den : Int) = (Nat.gcd x.den y.den : Int) * ((x.den / Nat.gcd x.den y.den : Nat) : Int) := by
        have := Nat.mul_div_cancel' hx
        exact_mod_cast this.symm
      have a2 : (y.den : Int) = (Nat.gcd x.den y.den : Int) * ((y.den / Nat.gcd x.den y.den : Nat) : Int) := by
        have := Nat.mul_div_cancel' hy
        exact_mod_cast this.symm
      generalize ((x.den / Nat.gcd x.den y.den : Nat) : Int) = u at *
      generalize ((y.den / Nat.gcd x.den y.den : Nat) : Int) = v at *
      generalize (Nat.gcd x.den y.den : Int) = g at *
      rw [a1, a2]
      grind
    have k2 : (encQ x).2 * (encQ y).2 = (Nat.gcd x.den y.den : Int) * ((x.den / Nat.gcd x.den y.den * y.den : Nat) : Int) := by
      show (x.den : Int) * (y.den : Int) = _
      have := Nat.mul_div_cancel' hx
      have : x.den * y.den = Nat.gcd x.den y.den * (x.den / Nat.gcd x.den y.den * y.den) := by
        rw [← Nat.mul_assoc, this]
      exact_mod_cast this
    rw [low0 _ _ hB0, low0 _ _ hB, k1, k2, Rat.divInt_mul_left (by omega)]
  rw [e1]
  unfold low gOf
  rw [if_neg (by simp), if_neg (by omega)]
  show (t.fdiv ((Nat.gcd t.natAbs (x.den / Nat.gcd x.den y.den * y.den) : Nat) : Int), _) = _
  have e2 : Nat.gcd t.natAbs (x.den / Nat.gcd x.den y.den * y.den) = Nat.gcd t.natAbs (Nat.gcd x.den y.den) := aux.symm
  rw [ec, ep, et]
  have e3 : (((x.den / Nat.gcd x.den y.den * y.den : Nat)) : Int).natAbs = x.den / Nat.gcd x.den y.den * y.den := Int.natAbs_natCast _
  rw [e3, e2, fdiv_nat, fdiv_nat]
  congr 1
  have d : Nat.gcd t.natAbs (Nat.gcd x.den y.den) ∣ y.den := Nat.dvd_trans (Nat.gcd_dvd_right _ _) hy
  have := Nat.mul_div_assoc (x.den / Nat.gcd x.den y.den) d
  exact_mod_cast this
theorem fdiv_le {b s : Int} (hb : 0 ≤ b) (hs : 0 ≤ s) : (b.fdiv s).natAbs ≤ b.natAbs := by
  obtain ⟨m, rfl⟩ := Int.eq_ofNat_of_zero_le hb
  obtain ⟨n, rfl⟩ := Int.eq_ofNat_of_zero_le hs
  rw [fdiv_nat, Int.natAbs_natCast, Int.natAbs_natCast]
  exact Nat.div_le_self _ _
theorem sh_bd {p q : Pr} (hp : IsN 0 p) : 1 ≤ shB p q ∧ (shB p q).natAbs ≤ p.2.natAbs := by
  have h : 1 ≤ p.2 := by
    rcases hp with ⟨_, h, _⟩ | ⟨h, _⟩
    · exact h
    · exact absurd rfl h
  have h1 : 0 < Nat.gcd p.2.natAbs q.2.natAbs := Nat.gcd_pos_of_pos_left _ (by omega)
  have h2 := Nat.le_of_dvd (by omega) (Nat.gcd_dvd_left p.2.natAbs q.2.natAbs)
  unfold shB
  omega
theorem co_bd {p q : Pr} (hp : IsN 0 p) : 1 ≤ coB p q ∧ (coB p q).natAbs ≤ (shB p q).natAbs := by
  have h := (sh_bd (q := q) hp).1
  have h1 : 0 < Nat.gcd (toB p q).natAbs (shB p q).natAbs := Nat.gcd_pos_of_pos_right _ (by omega)
  have h2 := Nat.le_of_dvd (by omega) (Nat.gcd_dvd_right (toB p q).natAbs (shB p q).natAbs)
  unfold coB
  omega
/-! ### rests by a prime -/
theorem prime_pow : ∀ p ∈ primesN, ∀ a, a < p → a ≠ 0 → a * powN p a (p - 2) % p = 1 := by
  have h : primesN.all (fun p => (List.range p).all fun a => a == 0 || a * powN p a (p - 2) % p == 1) = true := by decide +kernel
  intro p hp a ha h0
  have h1 := List.all_eq_true.mp h p hp
  have h2 := List.all_eq_true.mp h1 a (List.mem_range.mpr ha)
  simpa [h0] using h2
theorem prime_big : ∀ p ∈ primesN, 2 ≤ p ∧ p ≤ 97 := by decide +kernel
def invF (p : Nat) [NeZero p] (a : Fin p) : Fin p := if a = 0 then 0 else Fin.ofNat p (powN p a.val (p - 2))
theorem powN_mod (p b : Nat) : ∀ n, powN p (b % p) n = powN p b n
  | 0 => rfl
  | n + 1 => by
    show powN p (b % p) n * (b % p) % p = powN p b n * b % p
    rw [powN_mod p b n]
    simp
theorem fin_ne {p : Nat} [NeZero p] {a : Fin p} (h : a ≠ 0) : a.val ≠ 0 := fun e => h (Fin.ext (by rw [e]; rfl))
theorem invF_mul {p : Nat} [NeZero p] (hp : p ∈ primesN) (a : Fin p) (ha : a ≠ 0) : a * invF p a = 1 := by
  unfold invF
  rw [if_neg ha]
  apply Fin.ext
  have h := prime_pow p hp a.val a.isLt (fin_ne ha)
  have h2 := (prime_big p hp).1
  rw [Fin.val_mul]
  show a.val * (powN p a.val (p - 2) % p) % p = (1 : Fin p).val
  rw [Nat.mul_mod_mod, h]
  show 1 = 1 % p
  rw [Nat.mod_eq_of_lt (by omega)]
theorem fin_01 {p : Nat} [NeZero p] (h : 2 ≤ p) : (0 : Fin p) ≠ 1 := by
  intro e
  have e2 : (0 : Nat) = 1 % p := congrArg Fin.val e
  rw [Nat.mod_eq_of_lt (by omega)] at e2
  cases e2
def encP (p : Nat) (x : Fin p) : Pr := ((x.val : Int), 1)
def ofP (p : Nat) [NeZero p] (t : Int) : Fin p := Fin.ofNat p (t % p).toNat
theorem ofP_val {p : Nat} [NeZero p] (hp : 2 ≤ p) (t : Int) : ((ofP p t).val : Int) = t % p := by
  show (((t % p).toNat % p : Nat) : Int) = t % p
  have h0 : (0 : Int) ≤ t % p := Int.emod_nonneg t (by omega)
  have h1 : t % (p : Int) < p := Int.emod_lt_of_pos t (by omega)
  rw [Nat.mod_eq_of_lt (by omega)]
  exact Int.toNat_of_nonneg h0
theorem ofP_eq {p : Nat} [NeZero p] (hp : 2 ≤ p) {t : Int} {x : Fin p} (h : t % p = (x.val : Int)) : ofP p t = x := by
  apply Fin.ext
  have := ofP_val hp t
  omega
theorem val_mul_int {p : Nat} (x y : Fin p) : (((x * y : Fin p).val : Nat) : Int) = (x.val : Int) * y.val % p := by
  rw [Fin.val_mul]
  simp
theorem val_add_int {p : Nat} (x y : Fin p) : (((x + y : Fin p).val : Nat) : Int) = ((x.val : Int) + y.val) % p := by
  rw [Fin.val_add]
  simp
theorem p_ne {p : Nat} (hp : 2 ≤ p) : (p : Int) ≠ 0 := by omega
theorem low_p {p : Nat} [NeZero p] (hp : 2 ≤ p) (t b : Int) (hb : ofP p b ≠ 0) : encP p (ofP p t * invF p (ofP p b)) = low p t b := by
  unfold low
  rw [if_pos (p_ne hp)]
  show ((((ofP p t * invF p (ofP p b) : Fin p).val : Nat) : Int), (1 : Int)) = _
  rw [val_mul_int, ofP_val hp]
  have e : (((invF p (ofP p b)).val : Nat) : Int) = powm p (b % p) (p - 2) % p := by
    unfold invF
    rw [if_neg hb]
    show ((powN p (ofP p b).val (p - 2) % p : Nat) : Int) = _
    have h := powm_cast p (ofP p b).val (p - 2)
    rw [ofP_val hp] at h
    rw [h]
    simp
  rw [e]
  have e2 : ((p : Int) - 2).toNat = p - 2 := by omega
  rw [e2, show ∀ a b n : Int, a * (b % n) % n = a * b % n from fun a b n => by rw [Int.mul_emod, Int.emod_emod, ← Int.mul_emod]]
def fdP (p : Nat) [NeZero p] (h : p ∈ primesN) : Fd p :=
  have hp : 2 ≤ p := (prime_big p h).1
  { F := Fin p
    fld := mkField inferInstance (invF p) (fin_01 hp) (if_pos rfl) (invF_mul h)
    dec := inferInstance
    enc := encP p
    inj := fun x y e => by
      have e1 : ((x.val : Nat) : Int) = y.val := congrArg Prod.fst e
      exact Fin.ext (by omega)
    num := fun x => Or.inr ⟨p_ne hp, rfl, by
      show (0 : Int) ≤ (x.val : Int)
      omega, by
      have := x.isLt
      show (x.val : Int) < p
      omega⟩
    sur := fun q hq => by
      rcases hq with ⟨h0, _⟩ | ⟨_, h1, h2, h3⟩
      · exact absurd h0 (p_ne hp)
      · refine ⟨ofP p q.1, ?_⟩
        show (((ofP p q.1).val : Int), (1 : Int)) = q
        rw [ofP_val hp, Int.emod_eq_of_lt h2 h3, ← h1]
    zero := rfl
    one := by
      show (((1 % p : Nat) : Int), (1 : Int)) = (1, 1)
      rw [Nat.mod_eq_of_lt (by omega)]
      rfl
    add := fun x y => by
      unfold addN
      rw [if_pos (p_ne hp)]
      show ((((x + y : Fin p).val : Nat) : Int), (1 : Int)) = _
      rw [val_add_int]
      rfl
    mul := fun x y => by
      unfold mulN
      rw [if_pos (p_ne hp)]
      show ((((x * y : Fin p).val : Nat) : Int), (1 : Int)) = _
      rw [val_mul_int]
      rfl
    neg := fun x => by
      unfold negN
      rw [if_pos (p_ne hp)]
      show ((((-x : Fin p).val : Nat) : Int), (1 : Int)) = ((-(x.val : Int)) % p, 1)
      have hx := x.isLt
      have e : ((-x : Fin p).val) = (p - x.val) % p := rfl
      rw [e, Int.natCast_emod, Int.ofNat_sub (Nat.le_of_lt hx)]
      rw [Int.sub_eq_add_neg, Int.add_comm, Int.add_emod_right]
    inv := fun x hx => by
      show encP p (invF p x) = low p 1 x.val
      have ex : ofP p (x.val : Int) = x := ofP_eq hp (Int.emod_eq_of_lt (by omega) (by have := x.isLt; omega))
      rw [← low_p hp 1 (x.val : Int) (by rw [ex]; exact hx), ex]
      have e1 : ofP p 1 = 1 := ofP_eq hp (by
        show (1 : Int) % p = ((1 % p : Nat) : Int)
        simp)
      rw [e1]
      congr 1
      exact (Semiring.one_mul _).symm
    ofI := ofP p
    low := fun t b hb => low_p hp t b hb
    ofI0 := fun b => by
      rw [if_neg (p_ne hp)]
      have := ofP_val hp b
      constructor
      · intro e
        rw [e] at this
        exact this.symm
      · intro e
        exact ofP_eq hp e
    ofI_add := fun s t => by
      apply ofP_eq hp
      show (s + t) % (p : Int) = (((ofP p s + ofP p t : Fin p).val : Nat) : Int)
      rw [val_add_int, ofP_val hp, ofP_val hp, ← Int.add_emod]
    ofI_mul := fun s t => by
      apply ofP_eq hp
      show (s * t) % (p : Int) = (((ofP p s * ofP p t : Fin p).val : Nat) : Int)
      rw [val_mul_int, ofP_val hp, ofP_val hp, ← Int.mul_emod]
    ofI_one := ofP_eq hp (by
        show (1 : Int) % p = ((1 % p : Nat) : Int)
        simp)
    encI := fun z => by
      rw [if_neg (p_ne hp)]
      show (((ofP p z).val : Int), (1 : Int)) = _
      rw [ofP_val hp] }
theorem fd_ex {f : Int} (h : IsF f) : Nonempty (Fd f) := by
  rcases h with rfl | ⟨p, hp, rfl⟩
  · exact ⟨fdQ⟩
  · have : NeZero p := ⟨by have := (prime_big p hp).1; omega⟩
    exact ⟨fdP p hp⟩
/-! ### sizes of top and bottom -/
theorem fdiv_dvd_abs {t g : Int} (h : g ∣ t) (hg : g ≠ 0) : (t.fdiv g).natAbs ≤ t.natAbs := by
  obtain ⟨u, rfl⟩ := h
  rw [Int.mul_comm, Int.mul_fdiv_cancel _ hg, Int.natAbs_mul]
  have : 1 ≤ g.natAbs := by omega
  exact Nat.le_mul_of_pos_right _ this
theorem gOf_dvd (t b : Int) : gOf t b ∣ t ∧ gOf t b ∣ b := by
  have h1 : ((Nat.gcd t.natAbs b.natAbs : Nat) : Int) ∣ t := by
    rw [Int.ofNat_dvd_left]
    exact Nat.gcd_dvd_left _ _
  have h2 : ((Nat.gcd t.natAbs b.natAbs : Nat) : Int) ∣ b := by
    rw [Int.ofNat_dvd_left]
    exact Nat.gcd_dvd_right _ _
  unfold gOf
  split
  · exact ⟨Int.neg_dvd.mpr h1, Int.neg_dvd.mpr h2⟩
  · exact ⟨h1, h2⟩
theorem low0_le {t b : Int} (hb : b ≠ 0) : (low 0 t b).1.natAbs ≤ t.natAbs ∧ (low 0 t b).2.natAbs ≤ b.natAbs := by
  have hg : gOf t b ≠ 0 := by
    have h := (gOf_dvd t b).2
    intro e
    rw [e] at h
    exact hb (Int.zero_dvd.mp h)
  unfold low
  rw [if_neg (by simp)]
  exact ⟨fdiv_dvd_abs (gOf_dvd t b).1 hg, fdiv_dvd_abs (gOf_dvd t b).2 hg⟩
theorem isN_low0 {t b : Int} (hb : b ≠ 0) : IsN 0 (low 0 t b) := by
  rw [← encQ_low hb]
  exact fdQ.num _
end St

namespace St
open PySem PySem.Spec PyProof.Rows L2
def topS (i : Nat) : Stmt := PySem.Challenge.pw_stalkweb_k03_whole_numbers_make_a_field.main.body.getD i (.Pass ⟨0, 0, 0, 0⟩)
abbrev s__law_open : Stmt := topS 26
theorem sc__law_open : FnScope ["_law_script", "_law_seed", "_law_cell"] ["_law_script"] (defScope s__law_open) := ⟨rfl, rfl, rfl, by decide +kernel, rfl, by decide +kernel, by decide +kernel⟩
abbrev s__law_draw : Stmt := topS 27
theorem sc__law_draw : FnScope ["_law_box", "_law_many", "_law_cell", "_law_got", "_law_base"] ["_law_box", "_law_many"] (defScope s__law_draw) := ⟨rfl, rfl, rfl, by decide +kernel, rfl, by decide +kernel, by decide +kernel⟩
abbrev s__law_any : Stmt := topS 28
theorem sc__law_any : FnScope ["_law_box", "_law_some"] ["_law_box", "_law_some"] (defScope s__law_any) := ⟨rfl, rfl, rfl, by decide +kernel, rfl, by decide +kernel, by decide +kernel⟩
abbrev s__law_primes : Stmt := topS 29
theorem sc__law_primes : FnScope [] [] (defScope s__law_primes) := ⟨rfl, rfl, rfl, by decide +kernel, rfl, by decide +kernel, by decide +kernel⟩
abbrev s__law_field : Stmt := topS 30
theorem sc__law_field : FnScope ["_law_box"] ["_law_box"] (defScope s__law_field) := ⟨rfl, rfl, rfl, by decide +kernel, rfl, by decide +kernel, by decide +kernel⟩
abbrev s_is_field : Stmt := topS 19
theorem sc_is_field : FnScope ["field"] ["field"] (defScope s_is_field) := ⟨rfl, rfl, rfl, by decide +kernel, rfl, by decide +kernel, by decide +kernel⟩
abbrev s_check_field : Stmt := topS 16
theorem sc_check_field : FnScope ["field"] ["field"] (defScope s_check_field) := ⟨rfl, rfl, rfl, by decide +kernel, rfl, by decide +kernel, by decide +kernel⟩
abbrev s_fits : Stmt := topS 17
theorem sc_fits : FnScope ["field", "number", "top", "bottom"] ["field", "number"] (defScope s_fits) := ⟨rfl, rfl, rfl, by decide +kernel, rfl, by decide +kernel, by decide +kernel⟩
abbrev s_check_numbers : Stmt := topS 18
theorem sc_check_numbers : FnScope ["field", "numbers", "number"] ["field", "numbers"] (defScope s_check_numbers) := ⟨rfl, rfl, rfl, by decide +kernel, rfl, by decide +kernel, by decide +kernel⟩
abbrev s_added : Stmt := topS 5
theorem sc_added : FnScope ["field", "one", "other", "shared", "part", "top", "common"] ["field", "one", "other"] (defScope s_added) := ⟨rfl, rfl, rfl, by decide +kernel, rfl, by decide +kernel, by decide +kernel⟩
abbrev s_plus : Stmt := topS 21
theorem sc_plus : FnScope ["field", "one", "other"] ["field", "one", "other"] (defScope s_plus) := ⟨rfl, rfl, rfl, by decide +kernel, rfl, by decide +kernel, by decide +kernel⟩
abbrev s_inverse : Stmt := topS 3
theorem sc_inverse : FnScope ["prime", "whole", "found", "_"] ["prime", "whole"] (defScope s_inverse) := ⟨rfl, rfl, rfl, by decide +kernel, rfl, by decide +kernel, by decide +kernel⟩
abbrev s_lowest : Stmt := topS 4
theorem sc_lowest : FnScope ["field", "top", "bottom", "shared"] ["field", "top", "bottom"] (defScope s_lowest) := ⟨rfl, rfl, rfl, by decide +kernel, rfl, by decide +kernel, by decide +kernel⟩
abbrev s_multiplied : Stmt := topS 6
theorem sc_multiplied : FnScope ["field", "one", "other"] ["field", "one", "other"] (defScope s_multiplied) := ⟨rfl, rfl, rfl, by decide +kernel, rfl, by decide +kernel, by decide +kernel⟩
abbrev s_times : Stmt := topS 22
theorem sc_times : FnScope ["field", "one", "other"] ["field", "one", "other"] (defScope s_times) := ⟨rfl, rfl, rfl, by decide +kernel, rfl, by decide +kernel, by decide +kernel⟩
abbrev s__law_gcd : Stmt := topS 31
theorem sc__law_gcd : FnScope ["_law_one", "_law_other"] ["_law_one", "_law_other"] (defScope s__law_gcd) := ⟨rfl, rfl, rfl, by decide +kernel, rfl, by decide +kernel, by decide +kernel⟩
abbrev s__law_num : Stmt := topS 32
theorem sc__law_num : FnScope ["_law_field_here", "_law_top", "_law_bottom", "_law_k", "_law_part"] ["_law_field_here", "_law_top", "_law_bottom"] (defScope s__law_num) := ⟨rfl, rfl, rfl, by decide +kernel, rfl, by decide +kernel, by decide +kernel⟩
abbrev s__law_number : Stmt := topS 33
theorem sc__law_number : FnScope ["_law_box", "_law_field_here", "_law_pick", "_law_top", "_law_bottom"] ["_law_box", "_law_field_here"] (defScope s__law_number) := ⟨rfl, rfl, rfl, by decide +kernel, rfl, by decide +kernel, by decide +kernel⟩
abbrev s_is_nought : Stmt := topS 2
theorem sc_is_nought : FnScope ["field", "whole"] ["field", "whole"] (defScope s_is_nought) := ⟨rfl, rfl, rfl, by decide +kernel, rfl, by decide +kernel, by decide +kernel⟩
abbrev s_made : Stmt := topS 20
theorem sc_made : FnScope ["field", "top", "bottom"] ["field", "top", "bottom"] (defScope s_made) := ⟨rfl, rfl, rfl, by decide +kernel, rfl, by decide +kernel, by decide +kernel⟩
abbrev s_negative : Stmt := topS 7
theorem sc_negative : FnScope ["field", "number"] ["field", "number"] (defScope s_negative) := ⟨rfl, rfl, rfl, by decide +kernel, rfl, by decide +kernel, by decide +kernel⟩
abbrev s_less : Stmt := topS 23
theorem sc_less : FnScope ["field", "number"] ["field", "number"] (defScope s_less) := ⟨rfl, rfl, rfl, by decide +kernel, rfl, by decide +kernel, by decide +kernel⟩
abbrev s_flipped : Stmt := topS 8
theorem sc_flipped : FnScope ["field", "number"] ["field", "number"] (defScope s_flipped) := ⟨rfl, rfl, rfl, by decide +kernel, rfl, by decide +kernel, by decide +kernel⟩
abbrev s_over : Stmt := topS 24
theorem sc_over : FnScope ["field", "number"] ["field", "number"] (defScope s_over) := ⟨rfl, rfl, rfl, by decide +kernel, rfl, by decide +kernel, by decide +kernel⟩
abbrev s_law : Stmt := topS 34
theorem sc_law : FnScope ["_law_script", "_law_box", "_law_turn", "_law_field_here", "_law_k", "_law_one", "_law_two", "_law_three", "_law_parts", "_law_more"] ["_law_script"] (defScope s_law) := ⟨rfl, rfl, rfl, by decide +kernel, rfl, by decide +kernel, by decide +kernel⟩
/-! ### said of a def -/
def Def (P : Program) (w : World) (K : PySem.W.Frag) (mg : Str → Option Value) (base : Heap) (x : Str) (k : Nat) (ps : List Str) (sp : Sp) : Prop :=
  ∃ (f : Addr) (fd : FuncData), FnOk P w K mg base CX0 k f fd ps sp ∧ mg x = some (.ref f) ∧ PySem.W.keepIn K (.ref f) = true ∧ Binds K fd ps []
def Raw (K : PySem.W.Frag) (mg : Str → Option Value) (x : Str) (st : Stmt) : Prop := ∃ (f : Addr) (fd : FuncData), Fun K x x st f fd ∧ mg x = some (.ref f)
structure Bn (mg : Str → Option Value) : Prop where
  len : mg "len" = none
  range : mg "range" = none
  all : mg "all" = none
  abs : mg "abs" = none
  list : mg "list" = none
  gcd : mg "gcd" = some (.builtin "math.gcd")
  isinstance : mg "isinstance" = none
  int : mg "int" = none
  bool : mg "bool" = none
  str : mg "str" = none
  tuple : mg "tuple" = none
/-! ### tests on ints -/
theorem eqI {a b : Int} (e : decide (V.int a = V.int b) = true) : a = b := V.int.inj (of_decide_eq_true e)
theorem neI {a b : Int} (e : ¬ decide (V.int a = V.int b) = true) : a ≠ b := fun q => e (decide_eq_true (congrArg V.int q))
theorem neE {a b : Int} (e : (!decide (V.int a = V.int b)) = true) : a ≠ b := fun q => by
  rw [decide_eq_true (congrArg V.int q)] at e
  cases e
theorem neN {a b : Int} (e : ¬ (!decide (V.int a = V.int b)) = true) : a = b := by
  by_cases h : a = b
  · exact h
  · exfalso
    apply e
    rw [decide_eq_false (fun q => h (V.int.inj q))]
    rfl
theorem decI (a b : Int) : decide (V.int a = V.int b) = decide (a = b) := by
  by_cases h : a = b
  · rw [decide_eq_true h, decide_eq_true (congrArg V.int h)]
  · rw [decide_eq_false h, decide_eq_false (fun q => h (V.int.inj q))]
/-! ### numbers on the heap -/
theorem Same.seqT {K : PySem.W.Frag} {H H' : Hp} {a : Addr} {xs : List V} (e : Same H H') (h : SqT K H a xs) : SqT K H' a xs := by
  rcases h with (h | ⟨o, h⟩) | h
  · exact .inl (.inl (e _ _ h))
  · exact .inl (.inr ⟨o, e _ _ h⟩)
  · exact .inr h
theorem same_new {H : Hp} {p : Addr} {o : HO} (h : H p = none) : Same H (upd H p o) := fun b x e => by
  rw [upd_ne (ne_of_none e h)]
  exact e
def NumV (K : PySem.W.Frag) (H : Hp) (v : V) (q : Pr) : Prop := ∃ p : Addr, v = .ref p ∧ SqT K H p [.int q.1, .int q.2]
theorem NumV.same {K : PySem.W.Frag} {H H' : Hp} {v : V} {q : Pr} (h : NumV K H v q) (e : Same H H') : NumV K H' v q := by
  obtain ⟨p, h1, h2⟩ := h
  exact ⟨p, h1, Same.seqT e h2⟩
theorem NumV.new {K : PySem.W.Frag} {H : Hp} {p : Addr} (a b : Int) : NumV K (upd H p (.tup [.int a, .int b])) (.ref p) (a, b) := ⟨p, rfl, SqT.of upd_same⟩
/-- a number is told, a new object or one that stood -/
def RetN (K : PySem.W.Frag) (H : Hp) (Q : VK) (q : Pr) : Prop := ∀ (H' : Hp) (v : V), Same H H' → NumV K H' v q → Q v H'
theorem RetN.new {K : PySem.W.Frag} {H : Hp} {Q : VK} {a b : Int} {q : Pr} (h : RetN K H Q q) (e : q = (a, b)) {p : Addr} (hp : H p = none) : Q (.ref p) (upd H p (.tup [.int a, .int b])) := by
  subst e
  exact h _ _ (same_new hp) (NumV.new a b)
def Sm (n : Nat) (q : Pr) : Prop := q.1.natAbs < 2 ^ n ∧ q.2.natAbs < 2 ^ n
theorem Sm.mono {n m : Nat} {q : Pr} (h : Sm n q) (k : n ≤ m) : Sm m q := ⟨Nat.lt_of_lt_of_le h.1 (Nat.pow_le_pow_right (by decide) k), Nat.lt_of_lt_of_le h.2 (Nat.pow_le_pow_right (by decide) k)⟩
/-- // by any divisor but 0 that is below 2 ^ 9000 in size -/
def CDivA (_ j : Int) : Prop := j ≠ 0 ∧ j.natAbs.log2 < 9000
theorem op_fdivA {X : Cx} : OpR X (binaryOp .FloorDiv) (rI CDivA fun i j => .int (i.fdiv j)) := opI fun _ _ _ _ _ _ _ hc q => floordiv_int hc.1 q (.inl (PyProof.noPylong_of_log2 hc.2))
theorem divA {i j : Int} {b : Nat} (h : j ≠ 0) (hb : j.natAbs < 2 ^ b) (h0 : 0 < b) (h9 : b ≤ 9000) : CDivA i j := ⟨h, Nat.lt_of_lt_of_le (PySem.Flt.log2_lt_of h0 hb) h9⟩
/-! ### fields -/
theorem IsF.nn {f : Int} (h : IsF f) : 0 ≤ f := by
  rcases h with rfl | ⟨p, _, rfl⟩ <;> omega
theorem IsF.two {f : Int} (h : IsF f) (h0 : f ≠ 0) : 2 ≤ f ∧ f ≤ 97 := by
  rcases h with h | ⟨p, hp, rfl⟩
  · exact absurd h h0
  · have := prime_big p hp
    omega
theorem powm_bd {p b : Int} (hp : 2 ≤ p) : ∀ n, 0 ≤ powm p b n ∧ powm p b n < p
  | 0 => ⟨by show (0 : Int) ≤ 1; omega, by show (1 : Int) < p; omega⟩
  | n + 1 => ⟨Int.emod_nonneg _ (by omega), Int.emod_lt_of_pos _ (by omega)⟩
def nouB (f w : Int) : Bool := if f = 0 then decide (w = 0) else decide (w % f = 0)
theorem nouB0 {w : Int} : nouB 0 w = decide (w = 0) := if_pos rfl
theorem nouB1 {f w : Int} (h : f ≠ 0) : nouB f w = decide (w % f = 0) := if_neg h
theorem gOf_ne {t b : Int} (hb : b ≠ 0) : gOf t b ≠ 0 := by
  have : (Nat.gcd t.natAbs b.natAbs : Nat) ≠ 0 := by
    intro h
    rw [Nat.gcd_eq_zero_iff] at h
    omega
  unfold gOf
  split <;> omega
theorem gOf_le {t b : Int} (hb : b ≠ 0) : (gOf t b).natAbs ≤ b.natAbs := by
  have : Nat.gcd t.natAbs b.natAbs ≤ b.natAbs := Nat.le_of_dvd (by omega) (Nat.gcd_dvd_right _ _)
  unfold gOf
  split <;> omega
theorem tYes_of {σ : L2.St} {H : Hp} {Q : Bool → Hp → Prop} (h : Q true H) : tYes σ H Q := h
theorem tIfS_join {c : TT} {t u : TS} {D : Ends} {σ : L2.St} {H : Hp} (M : L2.St → Hp → Prop) (hM : ∀ σ' H', M σ' H' → D.nx σ' H') (h : (∀ σ' H', M σ' H' → D.nx σ' H') → tIfS c t u D σ H) : tIfS c t u D σ H := h hM
theorem same_seqT_upd {H H' : Hp} (e : Same H H') {D : Addr} {l : List V} {o : HO} (hD : H D = none) (h : H' D = some (.lst l)) : Same H (upd H' D o) := fun b x q => by
  have nb : b ≠ D := ne_of_none q hD
  rw [upd_ne nb]
  exact e b x q
theorem at0 (a b : V) : atI [a, b] 0 = some a := rfl
theorem at1 (a b : V) : atI [a, b] 1 = some b := rfl

/-! ## stalkweb.arithmetic -/
def spNou : Sp := fun vs H Q _ => ∃ f w : Int, vs = [.int f, .int w] ∧ 0 ≤ f ∧ Q (.bl (nouB f w)) H
theorem len_is_nought {vs H Q E} (h : spNou vs H Q E) : vs.length = (["field", "whole"] : List Str).length := by
  obtain ⟨f, w, rfl, _⟩ := h
  rfl
theorem d_is_nought {P : Program} {w : World} {K : PySem.W.Frag} {mg : Str → Option Value} {base : Heap} (R : Raw K mg "is_nought" s_is_nought)  : Def P w K mg base "is_nought" 1 ["field", "whole"] (spNou) := by
  obtain ⟨f, fd, F, m⟩ := R
  refine ⟨f, fd, F.ok sc_is_nought (fun vs H Q E h => ?_) (fun cdv A outer s H vs Q E hr h => ?_), m, F.kp, F.binds (ps := ["field", "whole"]) fun _ _ _ _ _ _ us hl => match us, hl with | [_, _], _ => rfl⟩
  · exact len_is_nought h

  · obtain ⟨a, n, rfl, h0, q⟩ := h
    refine ⟨_, (pss_cons (ps_if (pt_cmpR op_eq (pv 0) pe_int (nomark _)) (pss_one (ps_ret (pe_cmpR op_eq (pv 1) pe_int (nomark _)))) pss_nil) (pss_one (ps_ret (pe_cmpR op_eq (pe_op op_mod (pv 1) (pv 0)) pe_int (nomark _))))), ?_⟩
    refine ⟨_, rfl, rfl, _, rfl, ite2 (fun e => ?_) (fun e => ?_)⟩
    · have e := eqI e
      subst e
      refine ⟨_, rfl, rfl, ?_⟩
      rw [nouB0] at q
      rw [decI]
      exact q
    · have e := neI e
      refine ⟨_, rfl, _, rfl, _, _, rfl, rfl, (by show (0 : Int) < a; omega), rfl, ?_⟩
      rw [nouB1 e] at q
      rw [decI]
      exact q
def spInv : Sp := fun vs H Q _ => ∃ p b : Int, vs = [.int p, .int b] ∧ 2 ≤ p ∧ p ≤ 97 ∧ 0 ≤ b ∧ b < p ∧ Q (.int (powm p b (p - 2).toNat)) H
theorem len_inverse {vs H Q E} (h : spInv vs H Q E) : vs.length = (["prime", "whole"] : List Str).length := by
  obtain ⟨f, w, rfl, _⟩ := h
  rfl
theorem d_inverse {P : Program} {w : World} {K : PySem.W.Frag} {mg : Str → Option Value} {base : Heap} (R : Raw K mg "inverse" s_inverse) (B : Bn mg)  : Def P w K mg base "inverse" 1 ["prime", "whole"] (spInv) := by
  obtain ⟨f, fd, F, m⟩ := R
  refine ⟨f, fd, F.ok sc_inverse (fun vs H Q E h => ?_) (fun cdv A outer s H vs Q E hr h => ?_), m, F.kp, F.binds (ps := ["prime", "whole"]) fun _ _ _ _ _ _ us hl => match us, hl with | [_, _], _ => rfl⟩
  · exact len_inverse h

  · obtain ⟨a, b, rfl, h2, h97, hb0, hb1, q⟩ := h
    refine ⟨_, (pss_cons (ps_set (i := 2) sc_inverse.nd rfl (Or.inl rfl) pe_int) (pss_cons (ps_for PassesOwn.never rfl (pi_range1 (by rfl) B.range (pa_cons (pe_op op_sub (pv 0) pe_int) pa_nil)) (pg_name (i := 3) sc_inverse.nd rfl (Or.inl rfl)) (pss_one (ps_set (i := 2) sc_inverse.nd rfl (Or.inl rfl) (pe_op op_mod (pe_op op_mul (pv 2) (pv 1)) (pv 0))))) (pss_one (ps_ret (pv 2))))), ?_⟩
    refine ⟨_, rfl, _, _, rfl, rfl, a - 2, rfl, by omega, by omega, ?_⟩
    refine for_range (lo := 0) (n := (a - 2).toNat) (fun i σ H' => H' = H ∧ ∃ z, σ = [some (.int a), some (.int b), some (.int (powm a b i)), z]) ⟨rfl, none, rfl⟩ ?_ ?_
    · rintro i σ H' hi ⟨rfl, z, rfl⟩
      have hb := powm_bd (b := b) h2 i
      refine ⟨_, rfl, _, rfl, _, _, rfl, rfl, .inl ⟨by omega, by omega⟩, _, rfl, _, _, rfl, rfl, (by show (0 : Int) < a; omega), rfl, _, rfl⟩
    · rintro σ H' ⟨rfl, z, rfl⟩
      exact ⟨_, rfl, q⟩
/-- top over bottom -/
def spLow (K : PySem.W.Frag) : Sp := fun vs H Q _ => ∃ f t b : Int, vs = [.int f, .int t, .int b] ∧ IsF f ∧ nouB f b = false ∧ (f = 0 → b.natAbs < 2 ^ 9000) ∧ RetN K H Q (low f t b)
theorem len_lowest {K vs H Q E} (h : spLow K vs H Q E) : vs.length = (["field", "top", "bottom"] : List Str).length := by
  obtain ⟨f, t, b, rfl, _⟩ := h
  rfl
theorem d_lowest {P : Program} {w : World} {K : PySem.W.Frag} {mg : Str → Option Value} {base : Heap} (R : Raw K mg "lowest" s_lowest) (B : Bn mg) (D_inverse : Def P w K mg base "inverse" 1 ["prime", "whole"] (spInv)) : Def P w K mg base "lowest" 2 ["field", "top", "bottom"] (spLow K) := by
  obtain ⟨f, fd, F, m⟩ := R
  obtain ⟨f_inverse, fd_inverse, G_inverse, m_inverse, k_inverse, b_inverse⟩ := D_inverse
  refine ⟨f, fd, F.ok sc_lowest (fun vs H Q E h => ?_) (fun cdv A outer s H vs Q E hr h => ?_), m, F.kp, F.binds (ps := ["field", "top", "bottom"]) fun _ _ _ _ _ _ us hl => match us, hl with | [_, _, _], _ => rfl⟩
  · exact len_lowest h

  · obtain ⟨a, t, b, rfl, hf, hn, hs, q⟩ := h
    refine ⟨_, (pss_cons (ps_if (pt_cmpR op_ne (pv 0) pe_int (nomark _)) (pss_one (ps_ret (pe_tup (pa_cons (pe_op op_mod (pe_op op_mul (pe_op op_mod (pv 1) (pv 0)) (pe_call G_inverse (hr.mono (by omega)) (by rfl) m_inverse k_inverse b_inverse .nil pass0 (pa_cons (pv 0) (pa_cons (pe_op op_mod (pv 2) (pv 0)) pa_nil)))) (pv 0)) (pa_cons pe_int pa_nil))))) pss_nil) (pss_cons (ps_set (i := 3) sc_lowest.nd rfl (Or.inl rfl) (pe_callBfun cr_gcd (by rfl) B.gcd (pa_cons (pv 1) (pa_cons (pv 2) pa_nil)))) (pss_cons (ps_if (pt_cmpR op_lt (pv 2) pe_int (nomark _)) (pss_one (ps_set (i := 3) sc_lowest.nd rfl (Or.inl rfl) (pe_un un_neg (pv 3)))) pss_nil) (pss_one (ps_ret (pe_tup (pa_cons (pe_op op_fdivA (pv 1) (pv 3)) (pa_cons (pe_op op_fdivA (pv 2) (pv 3)) pa_nil)))))))), ?_⟩
    refine ⟨_, rfl, rfl, _, rfl, ite2 (fun e => ?_) (fun e => ?_)⟩
    · have e := neE e
      have h2 := hf.two e
      have m0 : 0 ≤ t % a := Int.emod_nonneg t (by omega)
      have m1 : t % a < a := Int.emod_lt_of_pos t (by omega)
      have n0 : 0 ≤ b % a := Int.emod_nonneg b (by omega)
      have n1 : b % a < a := Int.emod_lt_of_pos b (by omega)
      refine ⟨_, rfl, _, rfl, _, _, rfl, rfl, (by show (0 : Int) < a; omega), _, rfl, _, rfl, _, rfl, _, _, rfl, rfl, (by show (0 : Int) < a; omega), ?_⟩
      refine ⟨a, b % a, rfl, h2.1, h2.2, n0, n1, ?_⟩
      refine ⟨_, _, rfl, rfl, .inl ⟨by omega, by omega⟩, _, rfl, _, _, rfl, rfl, (by show (0 : Int) < a; omega), (by show 2 ≤ sizeLine; decide), fun p hp => ?_⟩
      exact q.new (by unfold low; rw [if_pos e]) hp
    · have e := neN e
      subst e
      have hb : b ≠ 0 := by
        rw [nouB0] at hn
        exact of_decide_eq_false hn
      have hs := hs rfl
      have hg := gOf_ne (t := t) hb
      have hgl := gOf_le (t := t) hb
      have hq : low 0 t b = (t.fdiv (gOf t b), b.fdiv (gOf t b)) := by
        unfold low
        rw [if_neg (by simp)]
      have hd : ∀ i, CDivA i (gOf t b) := fun i => divA hg (Nat.lt_of_le_of_lt hgl hs) (by decide) (by decide)
      refine ⟨_, rfl, _, rfl, _, _, rfl, ?_⟩
      refine ⟨_, rfl, _, _, rfl, rfl, _, rfl, ite2 (fun e => ?_) (fun e => ?_)⟩
      · have e := of_decide_eq_true e
        have eg : -((Nat.gcd t.natAbs b.natAbs : Nat) : Int) = gOf t b := by
          unfold gOf
          rw [if_pos e]
        refine ⟨_, rfl, _, rfl, ?_⟩
        dsimp only
        rw [eg]
        refine ⟨_, rfl, _, rfl, _, _, rfl, rfl, hd _, _, rfl, _, rfl, _, _, rfl, rfl, hd _, (by show 2 ≤ sizeLine; decide), fun p hp => ?_⟩
        exact q.new hq hp
      · have e := of_decide_eq_false (eq_false_of_ne_true e)
        have eg : ((Nat.gcd t.natAbs b.natAbs : Nat) : Int) = gOf t b := by
          unfold gOf
          rw [if_neg e]
        rw [eg]
        refine ⟨_, rfl, _, rfl, _, _, rfl, rfl, hd _, _, rfl, _, rfl, _, _, rfl, rfl, hd _, (by show 2 ≤ sizeLine; decide), fun p hp => ?_⟩
        exact q.new hq hp
/-- what a pair must be so that sums and products go through -/
structure Ok (f : Int) (q : Pr) : Prop where
  num : IsN f q
  sm : Sm 4000 q
theorem IsN.den {q : Pr} (h : IsN 0 q) : 1 ≤ q.2 ∧ Nat.gcd q.1.natAbs q.2.natAbs = 1 := by
  rcases h with ⟨_, h1, h2⟩ | ⟨h, _⟩
  · exact ⟨h1, h2⟩
  · exact absurd rfl h
theorem mul_small {a b : Int} {n m : Nat} (ha : a.natAbs < 2 ^ n) (hb : b.natAbs < 2 ^ m) : (a * b).natAbs < 2 ^ (n + m) := wide_lt ha hb
def spTwo (K : PySem.W.Frag) (g : Int → Pr → Pr → Pr) : Sp := fun vs H Q _ => ∃ (f : Int) (x y : V) (p q : Pr), vs = [.int f, x, y] ∧ IsF f ∧ NumV K H x p ∧ NumV K H y q ∧ Ok f p ∧ Ok f q ∧ RetN K H Q (g f p q)
theorem len_two {K g vs H Q E} (h : spTwo K g vs H Q E) : vs.length = (["field", "one", "other"] : List Str).length := by
  obtain ⟨f, x, y, p, q, rfl, _⟩ := h
  rfl
theorem wm {i j : Int} (hi : i.natAbs < 2 ^ 4000) (hj : j.natAbs < 2 ^ 4000) : CMulW i j := wide_mul hi hj (by decide) (by decide) (by decide)
theorem d_added {P : Program} {w : World} {K : PySem.W.Frag} {mg : Str → Option Value} {base : Heap} (R : Raw K mg "added" s_added) (B : Bn mg)  : Def P w K mg base "added" 1 ["field", "one", "other"] (spTwo K addN) := by
  obtain ⟨f, fd, F, m⟩ := R
  refine ⟨f, fd, F.ok sc_added (fun vs H Q E h => ?_) (fun cdv A outer s H vs Q E hr h => ?_), m, F.kp, F.binds (ps := ["field", "one", "other"]) fun _ _ _ _ _ _ us hl => match us, hl with | [_, _, _], _ => rfl⟩
  · exact len_two h

  · obtain ⟨a, x, y, p, r, rfl, hf, ⟨px, rfl, hx⟩, ⟨py, rfl, hy⟩, ⟨np, sp⟩, ⟨nr, sr⟩, q⟩ := h
    refine ⟨_, (pss_cons (ps_if (pt_cmpR op_ne (pv 0) pe_int (nomark _)) (pss_one (ps_ret (pe_tup (pa_cons (pe_op op_mod (pe_op op_add (pe_ix ix_tup (pv 1) pe_int (fun _ _ => rfl)) (pe_ix ix_tup (pv 2) pe_int (fun _ _ => rfl))) (pv 0)) (pa_cons pe_int pa_nil))))) pss_nil) (pss_cons (ps_set (i := 3) sc_added.nd rfl (Or.inl rfl) (pe_callBfun cr_gcd (by rfl) B.gcd (pa_cons (pe_ix ix_tup (pv 1) pe_int (fun _ _ => rfl)) (pa_cons (pe_ix ix_tup (pv 2) pe_int (fun _ _ => rfl)) pa_nil)))) (pss_cons (ps_set (i := 4) sc_added.nd rfl (Or.inl rfl) (pe_op op_fdivA (pe_ix ix_tup (pv 1) pe_int (fun _ _ => rfl)) (pv 3))) (pss_cons (ps_set (i := 5) sc_added.nd rfl (Or.inl rfl) (pe_op op_add (pe_op op_mulW (pe_ix ix_tup (pv 1) pe_int (fun _ _ => rfl)) (pe_op op_fdivA (pe_ix ix_tup (pv 2) pe_int (fun _ _ => rfl)) (pv 3))) (pe_op op_mulW (pe_ix ix_tup (pv 2) pe_int (fun _ _ => rfl)) (pv 4)))) (pss_cons (ps_set (i := 6) sc_added.nd rfl (Or.inl rfl) (pe_callBfun cr_gcd (by rfl) B.gcd (pa_cons (pv 5) (pa_cons (pv 3) pa_nil)))) (pss_one (ps_ret (pe_tup (pa_cons (pe_op op_fdivA (pv 5) (pv 6)) (pa_cons (pe_op op_mulW (pv 4) (pe_op op_fdivA (pe_ix ix_tup (pv 2) pe_int (fun _ _ => rfl)) (pv 6))) pa_nil)))))))))), ?_⟩
    refine ⟨_, rfl, rfl, _, rfl, ite2 (fun e => ?_) (fun e => ?_)⟩
    · have e := neE e
      have h2 := hf.two e
      refine ⟨_, rfl, px, _, _, _, rfl, rfl, hx, at0 _ _, _, rfl, py, _, _, _, rfl, rfl, hy, at0 _ _, _, _, rfl, rfl, _, rfl, _, _, rfl, rfl, (by show (0 : Int) < a; omega), (by show 2 ≤ sizeLine; decide), fun z hz => ?_⟩
      exact q.new (by unfold addN; rw [if_pos e]) hz
    · have e := neN e
      subst e
      have hp := np.den.1
      have hr' := nr.den.1
      have hs := sh_bd (q := r) np
      have hc := co_bd (q := r) np
      have b1 : (paB p r).natAbs < 2 ^ 4000 := Nat.lt_of_le_of_lt (fdiv_le (by omega) (by omega)) sp.2
      have b2 : (r.2.fdiv (shB p r)).natAbs < 2 ^ 4000 := Nat.lt_of_le_of_lt (fdiv_le (by omega) (by omega)) sr.2
      have b3 : (r.2.fdiv (coB p r)).natAbs < 2 ^ 4000 := Nat.lt_of_le_of_lt (fdiv_le (by omega) (by omega)) sr.2
      have hS : CDivA p.2 (shB p r) := divA (by omega) (Nat.lt_of_le_of_lt hs.2 sp.2) (by decide) (by decide)
      have hS' : CDivA r.2 (shB p r) := divA (by omega) (Nat.lt_of_le_of_lt hs.2 sp.2) (by decide) (by decide)
      have hT : CDivA (toB p r) (coB p r) := divA (by omega) (Nat.lt_of_le_of_lt (Nat.le_trans hc.2 hs.2) sp.2) (by decide) (by decide)
      have hT' : CDivA r.2 (coB p r) := divA (by omega) (Nat.lt_of_le_of_lt (Nat.le_trans hc.2 hs.2) sp.2) (by decide) (by decide)
      refine ⟨_, rfl, px, _, _, _, rfl, rfl, hx, at1 _ _, _, rfl, py, _, _, _, rfl, rfl, hy, at1 _ _, _, _, rfl, ?_⟩
      show _
      refine ⟨_, rfl, px, _, _, _, rfl, rfl, hx, at1 _ _, _, rfl, _, _, rfl, rfl, hS, ?_⟩
      refine ⟨_, rfl, px, _, _, _, rfl, rfl, hx, at0 _ _, _, rfl, py, _, _, _, rfl, rfl, hy, at1 _ _, _, rfl, _, _, rfl, rfl, hS', _, _, rfl, rfl, wm sp.1 b2, ?_⟩
      refine ⟨_, rfl, py, _, _, _, rfl, rfl, hy, at0 _ _, _, rfl, _, _, rfl, rfl, wm sr.1 b1, _, _, rfl, rfl, ?_⟩
      refine ⟨_, rfl, _, rfl, _, _, rfl, ?_⟩
      refine ⟨_, rfl, _, rfl, _, _, rfl, rfl, hT, _, rfl, _, rfl, py, _, _, _, rfl, rfl, hy, at1 _ _, _, rfl, _, _, rfl, rfl, hT', _, _, rfl, rfl, wm b1 b3, (by show 2 ≤ sizeLine; decide), fun z hz => ?_⟩
      exact q.new (add_lean np nr) hz
theorem d_multiplied {P : Program} {w : World} {K : PySem.W.Frag} {mg : Str → Option Value} {base : Heap} (R : Raw K mg "multiplied" s_multiplied) (D_lowest : Def P w K mg base "lowest" 2 ["field", "top", "bottom"] (spLow K)) : Def P w K mg base "multiplied" 3 ["field", "one", "other"] (spTwo K mulN) := by
  obtain ⟨f, fd, F, m⟩ := R
  obtain ⟨f_lowest, fd_lowest, G_lowest, m_lowest, k_lowest, b_lowest⟩ := D_lowest
  refine ⟨f, fd, F.ok sc_multiplied (fun vs H Q E h => ?_) (fun cdv A outer s H vs Q E hr h => ?_), m, F.kp, F.binds (ps := ["field", "one", "other"]) fun _ _ _ _ _ _ us hl => match us, hl with | [_, _, _], _ => rfl⟩
  · exact len_two h

  · obtain ⟨a, x, y, p, r, rfl, hf, ⟨px, rfl, hx⟩, ⟨py, rfl, hy⟩, ⟨np, sp⟩, ⟨nr, sr⟩, q⟩ := h
    refine ⟨_, (pss_cons (ps_if (pt_cmpR op_ne (pv 0) pe_int (nomark _)) (pss_one (ps_ret (pe_tup (pa_cons (pe_op op_mod (pe_op op_mulW (pe_ix ix_tup (pv 1) pe_int (fun _ _ => rfl)) (pe_ix ix_tup (pv 2) pe_int (fun _ _ => rfl))) (pv 0)) (pa_cons pe_int pa_nil))))) pss_nil) (pss_one (ps_ret (pe_call G_lowest (hr.mono (by omega)) (by rfl) m_lowest k_lowest b_lowest .nil pass0 (pa_cons (pv 0) (pa_cons (pe_op op_mulW (pe_ix ix_tup (pv 1) pe_int (fun _ _ => rfl)) (pe_ix ix_tup (pv 2) pe_int (fun _ _ => rfl))) (pa_cons (pe_op op_mulW (pe_ix ix_tup (pv 1) pe_int (fun _ _ => rfl)) (pe_ix ix_tup (pv 2) pe_int (fun _ _ => rfl))) pa_nil))))))), ?_⟩
    refine ⟨_, rfl, rfl, _, rfl, ite2 (fun e => ?_) (fun e => ?_)⟩
    · have e := neE e
      have h2 := hf.two e
      refine ⟨_, rfl, px, _, _, _, rfl, rfl, hx, at0 _ _, _, rfl, py, _, _, _, rfl, rfl, hy, at0 _ _, _, _, rfl, rfl, wm sp.1 sr.1, _, rfl, _, _, rfl, rfl, (by show (0 : Int) < a; omega), (by show 2 ≤ sizeLine; decide), fun z hz => ?_⟩
      exact q.new (by unfold mulN; rw [if_pos e]) hz
    · have e := neN e
      subst e
      have hp := np.den.1
      have hr' := nr.den.1
      refine ⟨_, rfl, _, rfl, px, _, _, _, rfl, rfl, hx, at0 _ _, _, rfl, py, _, _, _, rfl, rfl, hy, at0 _ _, _, _, rfl, rfl, wm sp.1 sr.1, ?_⟩
      refine ⟨_, rfl, px, _, _, _, rfl, rfl, hx, at1 _ _, _, rfl, py, _, _, _, rfl, rfl, hy, at1 _ _, _, _, rfl, rfl, wm sp.2 sr.2, ?_⟩
      have hm : p.2 * r.2 ≠ 0 := Int.mul_ne_zero (by omega) (by omega)
      refine ⟨0, _, _, rfl, hf, by rw [nouB0]; exact decide_eq_false hm, fun _ => Nat.lt_trans (mul_small sp.2 sr.2) (Nat.pow_lt_pow_right (by decide) (by decide)), ?_⟩
      exact q
def spOne (K : PySem.W.Frag) (nz : Bool) (g : Int → Pr → Pr) : Sp := fun vs H Q _ => ∃ (f : Int) (x : V) (p : Pr), vs = [.int f, x] ∧ IsF f ∧ NumV K H x p ∧ Ok f p ∧ (nz = true → p.1 ≠ 0) ∧ RetN K H Q (g f p)
theorem len_one {K nz g vs H Q E} (h : spOne K nz g vs H Q E) : vs.length = (["field", "number"] : List Str).length := by
  obtain ⟨f, x, p, rfl, _⟩ := h
  rfl
theorem d_negative {P : Program} {w : World} {K : PySem.W.Frag} {mg : Str → Option Value} {base : Heap} (R : Raw K mg "negative" s_negative)  : Def P w K mg base "negative" 1 ["field", "number"] (spOne K false negN) := by
  obtain ⟨f, fd, F, m⟩ := R
  refine ⟨f, fd, F.ok sc_negative (fun vs H Q E h => ?_) (fun cdv A outer s H vs Q E hr h => ?_), m, F.kp, F.binds (ps := ["field", "number"]) fun _ _ _ _ _ _ us hl => match us, hl with | [_, _], _ => rfl⟩
  · exact len_one h

  · obtain ⟨a, x, p, rfl, hf, ⟨px, rfl, hx⟩, ⟨np, sp⟩, _, q⟩ := h
    refine ⟨_, (pss_cons (ps_if (pt_cmpR op_ne (pv 0) pe_int (nomark _)) (pss_one (ps_ret (pe_tup (pa_cons (pe_op op_mod (pe_un un_neg (pe_ix ix_tup (pv 1) pe_int (fun _ _ => rfl))) (pv 0)) (pa_cons pe_int pa_nil))))) pss_nil) (pss_one (ps_ret (pe_tup (pa_cons (pe_un un_neg (pe_ix ix_tup (pv 1) pe_int (fun _ _ => rfl))) (pa_cons (pe_ix ix_tup (pv 1) pe_int (fun _ _ => rfl)) pa_nil)))))), ?_⟩
    refine ⟨_, rfl, rfl, _, rfl, ite2 (fun e => ?_) (fun e => ?_)⟩
    · have e := neE e
      have h2 := hf.two e
      refine ⟨_, rfl, px, _, _, _, rfl, rfl, hx, at0 _ _, _, rfl, _, rfl, _, _, rfl, rfl, (by show (0 : Int) < a; omega), (by show 2 ≤ sizeLine; decide), fun z hz => ?_⟩
      exact q.new (by unfold negN; rw [if_pos e]) hz
    · have e := neN e
      subst e
      refine ⟨_, rfl, px, _, _, _, rfl, rfl, hx, at0 _ _, _, rfl, _, rfl, px, _, _, _, rfl, rfl, hx, at1 _ _, (by show 2 ≤ sizeLine; decide), fun z hz => ?_⟩
      exact q.new (by unfold negN; rw [if_neg (by simp)]) hz
theorem nou_num {f : Int} {p : Pr} (hf : IsF f) (h : IsN f p) (h0 : p.1 ≠ 0) : nouB f p.1 = false := by
  rcases h with ⟨rfl, _⟩ | ⟨hn, _, h1, h2⟩
  · rw [nouB0]
    exact decide_eq_false h0
  · rw [nouB1 hn, Int.emod_eq_of_lt h1 h2]
    exact decide_eq_false h0
theorem d_flipped {P : Program} {w : World} {K : PySem.W.Frag} {mg : Str → Option Value} {base : Heap} (R : Raw K mg "flipped" s_flipped) (D_lowest : Def P w K mg base "lowest" 2 ["field", "top", "bottom"] (spLow K)) : Def P w K mg base "flipped" 3 ["field", "number"] (spOne K true invN) := by
  obtain ⟨f, fd, F, m⟩ := R
  obtain ⟨f_lowest, fd_lowest, G_lowest, m_lowest, k_lowest, b_lowest⟩ := D_lowest
  refine ⟨f, fd, F.ok sc_flipped (fun vs H Q E h => ?_) (fun cdv A outer s H vs Q E hr h => ?_), m, F.kp, F.binds (ps := ["field", "number"]) fun _ _ _ _ _ _ us hl => match us, hl with | [_, _], _ => rfl⟩
  · exact len_one h

  · obtain ⟨a, x, p, rfl, hf, ⟨px, rfl, hx⟩, ⟨np, sp⟩, h0, q⟩ := h
    have h0 := h0 rfl
    refine ⟨_, (pss_one (ps_ret (pe_call G_lowest (hr.mono (by omega)) (by rfl) m_lowest k_lowest b_lowest .nil pass0 (pa_cons (pv 0) (pa_cons (pe_ix ix_tup (pv 1) pe_int (fun _ _ => rfl)) (pa_cons (pe_ix ix_tup (pv 1) pe_int (fun _ _ => rfl)) pa_nil)))))), ?_⟩
    refine ⟨_, rfl, _, rfl, px, _, _, _, rfl, rfl, hx, at1 _ _, _, rfl, px, _, _, _, rfl, rfl, hx, at0 _ _, ?_⟩
    exact ⟨a, _, _, rfl, hf, nou_num hf np h0, fun _ => Nat.lt_trans sp.1 (Nat.pow_lt_pow_right (by decide) (by decide)), q⟩

/-! ## stalkweb.numbers, of what is good -/
def fieldsL : List Int := [0, 2, 3, 5, 7, 11, 13, 17, 19, 23, 29, 31, 37, 41, 43, 47, 53, 59, 61, 67, 71, 73, 79, 83, 89, 97]
def isFB (f : Int) : Bool := fieldsL.any fun x => decide (x = f)
theorem isFB_iff {f : Int} : isFB f = true ↔ IsF f := by
  unfold isFB
  rw [List.any_eq_true]
  constructor
  · rintro ⟨x, hx, e⟩
    have e := of_decide_eq_true e
    subst e
    have key : ∀ x ∈ fieldsL, x = 0 ∨ x.toNat ∈ primesN ∧ x = (x.toNat : Int) := by decide +kernel
    rcases key x hx with h | ⟨h1, h2⟩
    · exact .inl h
    · exact .inr ⟨_, h1, h2⟩
  · rintro (rfl | ⟨p, hp, rfl⟩)
    · exact ⟨0, by decide, by decide⟩
    · have key : ∀ p ∈ primesN, (p : Int) ∈ fieldsL := by decide +kernel
      exact ⟨_, key p hp, decide_eq_true rfl⟩
/-- FIELDS as it stands at the top -/
def FieldsAt (K : PySem.W.Frag) (mg : Str → Option Value) : Prop := ∃ a : Addr, mg "FIELDS" = some (.ref a) ∧ ∀ H : Hp, SqT K H a (fieldsL.map V.int)
theorem inV_int (f : Int) : ∀ l : List Int, inV (V.int f) (l.map V.int) = l.any fun x => decide (x = f)
  | [] => rfl
  | x :: l => by
    show (eqV (V.int x) (V.int f) || inV (V.int f) (l.map V.int)) = (decide (x = f) || l.any fun x => decide (x = f))
    rw [inV_int f l]
    congr 1
def spIsF : Sp := fun vs H Q _ => ∃ f : Int, vs = [.int f] ∧ Q (.bl (isFB f)) H
theorem len_is_field {vs H Q E} (h : spIsF vs H Q E) : vs.length = (["field"] : List Str).length := by
  obtain ⟨f, rfl, _⟩ := h
  rfl
theorem d_is_field {P : Program} {w : World} {K : PySem.W.Frag} {mg : Str → Option Value} {base : Heap} (R : Raw K mg "is_field" s_is_field) (TF : FieldsAt K mg)  : Def P w K mg base "is_field" 1 ["field"] (spIsF) := by
  obtain ⟨f, fd, F, m⟩ := R
  refine ⟨f, fd, F.ok sc_is_field (fun vs H Q E h => ?_) (fun cdv A outer s H vs Q E hr h => ?_), m, F.kp, F.binds (ps := ["field"]) fun _ _ _ _ _ _ us hl => match us, hl with | [_], _ => rfl⟩
  · exact len_is_field h

  · obtain ⟨a, rfl, q⟩ := h
    obtain ⟨a_FIELDS, m_FIELDS, sF⟩ := TF
    refine ⟨_, (pss_one (ps_ret (pe_cmpR op_in_seq (pv 0) (pe_glob (v := V.ref a_FIELDS) (by rfl) m_FIELDS rfl) (by rfl)))), ?_⟩
    refine ⟨_, rfl, a_FIELDS, _, rfl, .inr (sF H), rfl, by decide +kernel, ?_⟩
    show Q (V.bl (if false = true then !inV (V.int a) (fieldsL.map V.int) else inV (V.int a) (fieldsL.map V.int))) H
    rw [if_neg Bool.false_ne_true, inV_int]
    exact q
def spChk : Sp := fun vs H Q _ => ∃ f : Int, vs = [.int f] ∧ IsF f ∧ Q .non H
theorem len_check_field {vs H Q E} (h : spChk vs H Q E) : vs.length = (["field"] : List Str).length := by
  obtain ⟨f, rfl, _⟩ := h
  rfl
theorem d_check_field {P : Program} {w : World} {K : PySem.W.Frag} {mg : Str → Option Value} {base : Heap} (R : Raw K mg "check_field" s_check_field) (D_is_field : Def P w K mg base "is_field" 1 ["field"] (spIsF)) : Def P w K mg base "check_field" 2 ["field"] (spChk) := by
  obtain ⟨f, fd, F, m⟩ := R
  obtain ⟨f_is_field, fd_is_field, G_is_field, m_is_field, k_is_field, b_is_field⟩ := D_is_field
  refine ⟨f, fd, F.ok sc_check_field (fun vs H Q E h => ?_) (fun cdv A outer s H vs Q E hr h => ?_), m, F.kp, F.binds (ps := ["field"]) fun _ _ _ _ _ _ us hl => match us, hl with | [_], _ => rfl⟩
  · exact len_check_field h

  · obtain ⟨a, rfl, hf, q⟩ := h
    refine ⟨_, (pss_one (ps_if (pt_not (pt_val (pe_call G_is_field (hr.mono (by omega)) (by rfl) m_is_field k_is_field b_is_field .nil pass0 (pa_cons (pv 0) pa_nil)))) (pss_one ps_never) pss_nil)), ?_⟩
    refine ⟨_, rfl, a, rfl, _, rfl, ?_⟩
    rw [isFB_iff.mpr hf]
    exact iteF q
/-- whether it is a number of the field -/
def isNB (f : Int) (q : Pr) : Bool := if f = 0 then decide (1 ≤ q.2) && decide (((Nat.gcd q.1.natAbs q.2.natAbs : Nat) : Int) = 1) else decide (q.2 = 1) && (decide (0 ≤ q.1) && decide (q.1 < f))
theorem isNB_iff {f : Int} {q : Pr} : isNB f q = true ↔ IsN f q := by
  unfold isNB IsN
  by_cases h : f = 0
  · subst h
    rw [if_pos rfl, Bool.and_eq_true, decide_eq_true_iff, decide_eq_true_iff]
    constructor
    · rintro ⟨h1, h2⟩
      refine .inl ⟨rfl, h1, ?_⟩
      show Nat.gcd q.1.natAbs q.2.natAbs = 1
      omega
    · rintro (⟨_, h1, h2⟩ | ⟨h, _⟩)
      · have h2 : Nat.gcd q.1.natAbs q.2.natAbs = 1 := h2
        exact ⟨h1, by omega⟩
      · exact absurd rfl h
  · rw [if_neg h, Bool.and_eq_true, Bool.and_eq_true, decide_eq_true_iff, decide_eq_true_iff, decide_eq_true_iff]
    constructor
    · rintro ⟨h1, h2, h3⟩
      exact .inr ⟨h, h1, h2, h3⟩
    · rintro (⟨h', _⟩ | ⟨_, h1, h2, h3⟩)
      · exact absurd h' h
      · exact ⟨h1, h2, h3⟩
def spFits (K : PySem.W.Frag) : Sp := fun vs H Q _ => ∃ (f : Int) (x : V) (p : Pr), vs = [.int f, x] ∧ NumV K H x p ∧ Q (.bl (isNB f p)) H
theorem len_fits {K vs H Q E} (h : spFits K vs H Q E) : vs.length = (["field", "number"] : List Str).length := by
  obtain ⟨f, x, p, rfl, _⟩ := h
  rfl
theorem d_fits {P : Program} {w : World} {K : PySem.W.Frag} {mg : Str → Option Value} {base : Heap} (R : Raw K mg "fits" s_fits) (B : Bn mg)  : Def P w K mg base "fits" 1 ["field", "number"] (spFits K) := by
  obtain ⟨f, fd, F, m⟩ := R
  refine ⟨f, fd, F.ok sc_fits (fun vs H Q E h => ?_) (fun cdv A outer s H vs Q E hr h => ?_), m, F.kp, F.binds (ps := ["field", "number"]) fun _ _ _ _ _ _ us hl => match us, hl with | [_, _], _ => rfl⟩
  · exact len_fits h

  · obtain ⟨a, x, p, rfl, ⟨px, rfl, hx⟩, q⟩ := h
    refine ⟨_, (pss_cons (ps_asg (pv 1) (pg_tup (by rfl) (pgs_cons (pg_name (i := 2) sc_fits.nd rfl (Or.inl rfl)) (pgs_cons (pg_name (i := 3) sc_fits.nd rfl (Or.inl rfl)) pgs_nil)))) (pss_cons (ps_if (pt_cmpR op_eq (pv 0) pe_int (nomark _)) (pss_one (ps_ret (pe_and (pe_cmpR op_ge (pv 3) pe_int (nomark _)) (pe_one (pe_cmpR op_eq (pe_callBfun cr_gcd (by rfl) B.gcd (pa_cons (pv 2) (pa_cons (pv 3) pa_nil))) pe_int (nomark _)))))) pss_nil) (pss_one (ps_ret (pe_and (pe_cmpR op_eq (pv 3) pe_int (nomark _)) (pe_one (pe_chain op_le op_lt pe_int (pv 2) (pv 0)))))))), ?_⟩
    refine ⟨_, rfl, px, _, rfl, hx, rfl, _, _, rfl, _, _, rfl, rfl, ?_⟩
    refine ⟨_, rfl, rfl, _, rfl, ite2 (fun e => ?_) (fun e => ?_)⟩
    · have e := eqI e
      subst e
      have q : Q (.bl (decide (1 ≤ p.2) && decide (((Nat.gcd p.1.natAbs p.2.natAbs : Nat) : Int) = 1))) H := q
      refine ⟨_, rfl, _, _, rfl, rfl, _, rfl, ite2 (fun e => ?_) (fun e => ?_)⟩
      · refine ⟨_, rfl, _, rfl, _, _, rfl, rfl, ?_⟩
        rw [decI]
        rw [e, Bool.true_and] at q
        exact q
      · rw [eq_false_of_ne_true e, Bool.false_and] at q
        exact q
    · have e := neI e
      have q : Q (.bl (decide (p.2 = 1) && (decide (0 ≤ p.1) && decide (p.1 < a)))) H := by
        have q := q
        unfold isNB at q
        rw [if_neg e] at q
        exact q
      refine ⟨_, rfl, rfl, _, rfl, ?_⟩
      rw [decI]
      refine ite2 (fun e => ?_) (fun e => ?_)
      · rw [e, Bool.true_and] at q
        refine ⟨_, rfl, _, _, rfl, rfl, _, rfl, ite2 (fun e => ?_) (fun e => ?_)⟩
        · rw [e, Bool.true_and] at q
          exact ⟨_, rfl, _, _, rfl, rfl, q⟩
        · rw [eq_false_of_ne_true e, Bool.false_and] at q
          exact q
      · rw [eq_false_of_ne_true e, Bool.false_and] at q
        exact q
/-- values that are numbers -/
def NumsV (K : PySem.W.Frag) (H : Hp) (vs : List V) (qs : List Pr) : Prop := Paired (NumV K H) vs qs
theorem NumsV.same {K : PySem.W.Frag} {H H' : Hp} (e : Same H H') : ∀ {vs : List V} {qs : List Pr}, NumsV K H vs qs → NumsV K H' vs qs
  | _, _, .nil => .nil
  | _, _, .cons h t => .cons (h.same e) (NumsV.same e t)
theorem NumsV.get {K : PySem.W.Frag} {H : Hp} : ∀ {vs : List V} {qs : List Pr} {i : Nat} {x : V}, NumsV K H vs qs → vs[i]? = some x → ∃ q, qs[i]? = some q ∧ NumV K H x q
  | _, _, _, _, .nil, e => by simp at e
  | _, _, 0, _, .cons r _, e => by simp at e; subst e; exact ⟨_, rfl, r⟩
  | _, _, i + 1, x, .cons _ t, e => by
    obtain ⟨u, h1, h2⟩ := NumsV.get (i := i) (x := x) t (by simpa using e)
    exact ⟨u, by simpa using h1, h2⟩
/-- numbers are looked at: all good -/
def spChkN (K : PySem.W.Frag) : Sp := fun vs H Q _ => ∃ (f : Int) (p : Addr) (xs : List V) (qs : List Pr), vs = [.int f, .ref p] ∧ SqT K H p xs ∧ NumsV K H xs qs ∧ xs.length ≤ 1000 ∧ (∀ q ∈ qs, IsN f q) ∧ ∀ H', Same H H' → Q .non H'
theorem len_check_numbers {K vs H Q E} (h : spChkN K vs H Q E) : vs.length = (["field", "numbers"] : List Str).length := by
  obtain ⟨f, p, xs, qs, rfl, _⟩ := h
  rfl
theorem d_check_numbers {P : Program} {w : World} {K : PySem.W.Frag} {mg : Str → Option Value} {base : Heap} (R : Raw K mg "check_numbers" s_check_numbers) (B : Bn mg) (D_fits : Def P w K mg base "fits" 1 ["field", "number"] (spFits K)) : Def P w K mg base "check_numbers" 2 ["field", "numbers"] (spChkN K) := by
  obtain ⟨f, fd, F, m⟩ := R
  obtain ⟨f_fits, fd_fits, G_fits, m_fits, k_fits, b_fits⟩ := D_fits
  refine ⟨f, fd, F.ok sc_check_numbers (fun vs H Q E h => ?_) (fun cdv A outer s H vs Q E hr h => ?_), m, F.kp, F.binds (ps := ["field", "numbers"]) fun _ _ _ _ _ _ us hl => match us, hl with | [_, _], _ => rfl⟩
  · exact len_check_numbers h

  · obtain ⟨a, p, xs, qs, rfl, hx, hv, hl, hg, q⟩ := h
    refine ⟨_, (pss_one (ps_if (pt_not (pt_val (pe_callB (cr_all rfl) (by rfl) B.all (by decide +kernel) (pa_cons (pe_lc (own := [("number", 2)]) (g := gName 2) (tt := tYes) rfl sc_check_numbers.nd (pi_tup (pv 1)) (blkOk_by (N := ["field", "numbers", "number"]) (sc := defScope s_check_numbers) (by decide +kernel)) (fun _ _ _ _ _ => pg_name (i := 2) sc_check_numbers.nd rfl (Or.inl rfl)) (fun _ _ _ _ _ => pts_nil) (fun _ _ _ _ _ => (pe_call G_fits (hr.mono (by omega)) (by rfl) m_fits k_fits b_fits .nil pass0 (pa_cons (pv 0) (pa_cons (pv 2) pa_nil))))) pa_nil)))) (pss_one ps_never) pss_nil)), ?_⟩
    refine ⟨_, rfl, p, rfl, ⟨_, hx⟩, fun D hD => lc_tup (K := K) (a := p) (xs := xs) (fun i H' => Same H H' ∧ H' D = some (.lst (List.replicate i (V.bl true))))
      ⟨same_new hD, upd_same⟩ (fun i H' _ ⟨s, _⟩ => Same.seqT s hx) ?_ ?_⟩
    · rintro i x H' hi ⟨s, hD'⟩
      obtain ⟨r, hr1, hr2⟩ := hv.get hi
      have hil := (List.getElem?_eq_some_iff.mp hi).1
      refine ⟨rfl, tYes_of (iteT ?_)⟩
      refine ⟨_, rfl, _, rfl, a, x, r, rfl, hr2.same s, ?_⟩
      refine ⟨_, hD', by rw [List.length_replicate]; exact small1000 (by omega), same_seqT_upd s hD hD', ?_⟩
      rw [upd_same, isNB_iff.mpr (hg r (List.mem_of_getElem? hr1)), List.replicate_succ']
    · rintro H' ⟨s, hD'⟩
      refine ⟨D, List.replicate xs.length true, rfl, ?_, ?_⟩
      · rw [List.map_replicate]
        exact SqL.of hD'
      · have e : (List.replicate xs.length true).all id = true := by simp
        rw [e]
        exact ⟨_, rfl, iteF (q H' s)⟩
def spMade (K : PySem.W.Frag) : Sp := fun vs H Q _ => ∃ f t b : Int, vs = [.int f, .int t, .int b] ∧ IsF f ∧ nouB f b = false ∧ (f = 0 → b.natAbs < 2 ^ 9000) ∧ RetN K H Q (low f t b)
def spTwoQ := spTwo
theorem d_plus {P : Program} {w : World} {K : PySem.W.Frag} {mg : Str → Option Value} {base : Heap} (R : Raw K mg "plus" s_plus) (D_check_field : Def P w K mg base "check_field" 2 ["field"] (spChk)) (D_check_numbers : Def P w K mg base "check_numbers" 2 ["field", "numbers"] (spChkN K)) (D_added : Def P w K mg base "added" 1 ["field", "one", "other"] (spTwo K addN)) : Def P w K mg base "plus" 3 ["field", "one", "other"] (spTwo K addN) := by
  obtain ⟨f, fd, F, m⟩ := R
  obtain ⟨f_check_field, fd_check_field, G_check_field, m_check_field, k_check_field, b_check_field⟩ := D_check_field
  obtain ⟨f_check_numbers, fd_check_numbers, G_check_numbers, m_check_numbers, k_check_numbers, b_check_numbers⟩ := D_check_numbers
  obtain ⟨f_added, fd_added, G_added, m_added, k_added, b_added⟩ := D_added
  refine ⟨f, fd, F.ok sc_plus (fun vs H Q E h => ?_) (fun cdv A outer s H vs Q E hr h => ?_), m, F.kp, F.binds (ps := ["field", "one", "other"]) fun _ _ _ _ _ _ us hl => match us, hl with | [_, _, _], _ => rfl⟩
  · exact len_two h

  · obtain ⟨a, x, y, p, r, rfl, hf, hx, hy, op, or, q⟩ := h
    refine ⟨_, (pss_cons (ps_expr (pe_call G_check_field (hr.mono (by omega)) (by rfl) m_check_field k_check_field b_check_field .nil pass0 (pa_cons (pv 0) pa_nil))) (pss_cons (ps_expr (pe_call G_check_numbers (hr.mono (by omega)) (by rfl) m_check_numbers k_check_numbers b_check_numbers .nil pass0 (pa_cons (pv 0) (pa_cons (pe_tup (pa_cons (pv 1) (pa_cons (pv 2) pa_nil))) pa_nil)))) (pss_one (ps_ret (pe_call G_added (hr.mono (by omega)) (by rfl) m_added k_added b_added .nil pass0 (pa_cons (pv 0) (pa_cons (pv 1) (pa_cons (pv 2) pa_nil)))))))), ?_⟩
    refine ⟨_, rfl, a, rfl, hf, ?_⟩
    refine ⟨_, rfl, _, rfl, _, rfl, (by show 2 ≤ sizeLine; decide), fun z hz => ?_⟩
    have s1 : Same H (upd H z (.tup [x, y])) := same_new hz
    refine ⟨a, z, [x, y], [p, r], rfl, SqT.of upd_same, .cons (hx.same s1) (.cons (hy.same s1) .nil), by show 2 ≤ 1000; decide, ?_, fun H' s2 => ?_⟩
    · intro t ht
      rcases List.mem_cons.mp ht with rfl | ht
      · exact op.num
      · rcases List.mem_cons.mp ht with rfl | ht
        · exact or.num
        · cases ht
    · have s3 := s1.trans s2
      refine ⟨_, rfl, _, rfl, _, rfl, a, x, y, p, r, rfl, hf, hx.same s3, hy.same s3, op, or, fun H'' v s4 hv => q H'' v (s3.trans s4) hv⟩
theorem d_times {P : Program} {w : World} {K : PySem.W.Frag} {mg : Str → Option Value} {base : Heap} (R : Raw K mg "times" s_times) (D_check_field : Def P w K mg base "check_field" 2 ["field"] (spChk)) (D_check_numbers : Def P w K mg base "check_numbers" 2 ["field", "numbers"] (spChkN K)) (D_multiplied : Def P w K mg base "multiplied" 3 ["field", "one", "other"] (spTwo K mulN)) : Def P w K mg base "times" 4 ["field", "one", "other"] (spTwo K mulN) := by
  obtain ⟨f, fd, F, m⟩ := R
  obtain ⟨f_check_field, fd_check_field, G_check_field, m_check_field, k_check_field, b_check_field⟩ := D_check_field
  obtain ⟨f_check_numbers, fd_check_numbers, G_check_numbers, m_check_numbers, k_check_numbers, b_check_numbers⟩ := D_check_numbers
  obtain ⟨f_multiplied, fd_multiplied, G_multiplied, m_multiplied, k_multiplied, b_multiplied⟩ := D_multiplied
  refine ⟨f, fd, F.ok sc_times (fun vs H Q E h => ?_) (fun cdv A outer s H vs Q E hr h => ?_), m, F.kp, F.binds (ps := ["field", "one", "other"]) fun _ _ _ _ _ _ us hl => match us, hl with | [_, _, _], _ => rfl⟩
  · exact len_two h

  · obtain ⟨a, x, y, p, r, rfl, hf, hx, hy, op, or, q⟩ := h
    refine ⟨_, (pss_cons (ps_expr (pe_call G_check_field (hr.mono (by omega)) (by rfl) m_check_field k_check_field b_check_field .nil pass0 (pa_cons (pv 0) pa_nil))) (pss_cons (ps_expr (pe_call G_check_numbers (hr.mono (by omega)) (by rfl) m_check_numbers k_check_numbers b_check_numbers .nil pass0 (pa_cons (pv 0) (pa_cons (pe_tup (pa_cons (pv 1) (pa_cons (pv 2) pa_nil))) pa_nil)))) (pss_one (ps_ret (pe_call G_multiplied (hr.mono (by omega)) (by rfl) m_multiplied k_multiplied b_multiplied .nil pass0 (pa_cons (pv 0) (pa_cons (pv 1) (pa_cons (pv 2) pa_nil)))))))), ?_⟩
    refine ⟨_, rfl, a, rfl, hf, ?_⟩
    refine ⟨_, rfl, _, rfl, _, rfl, (by show 2 ≤ sizeLine; decide), fun z hz => ?_⟩
    have s1 : Same H (upd H z (.tup [x, y])) := same_new hz
    refine ⟨a, z, [x, y], [p, r], rfl, SqT.of upd_same, .cons (hx.same s1) (.cons (hy.same s1) .nil), by show 2 ≤ 1000; decide, ?_, fun H' s2 => ?_⟩
    · intro t ht
      rcases List.mem_cons.mp ht with rfl | ht
      · exact op.num
      · rcases List.mem_cons.mp ht with rfl | ht
        · exact or.num
        · cases ht
    · have s3 := s1.trans s2
      refine ⟨_, rfl, _, rfl, _, rfl, a, x, y, p, r, rfl, hf, hx.same s3, hy.same s3, op, or, fun H'' v s4 hv => q H'' v (s3.trans s4) hv⟩
theorem d_less {P : Program} {w : World} {K : PySem.W.Frag} {mg : Str → Option Value} {base : Heap} (R : Raw K mg "less" s_less) (D_check_field : Def P w K mg base "check_field" 2 ["field"] (spChk)) (D_check_numbers : Def P w K mg base "check_numbers" 2 ["field", "numbers"] (spChkN K)) (D_negative : Def P w K mg base "negative" 1 ["field", "number"] (spOne K false negN)) : Def P w K mg base "less" 3 ["field", "number"] (spOne K false negN) := by
  obtain ⟨f, fd, F, m⟩ := R
  obtain ⟨f_check_field, fd_check_field, G_check_field, m_check_field, k_check_field, b_check_field⟩ := D_check_field
  obtain ⟨f_check_numbers, fd_check_numbers, G_check_numbers, m_check_numbers, k_check_numbers, b_check_numbers⟩ := D_check_numbers
  obtain ⟨f_negative, fd_negative, G_negative, m_negative, k_negative, b_negative⟩ := D_negative
  refine ⟨f, fd, F.ok sc_less (fun vs H Q E h => ?_) (fun cdv A outer s H vs Q E hr h => ?_), m, F.kp, F.binds (ps := ["field", "number"]) fun _ _ _ _ _ _ us hl => match us, hl with | [_, _], _ => rfl⟩
  · exact len_one h

  · obtain ⟨a, x, p, rfl, hf, hx, op, h0, q⟩ := h
    refine ⟨_, (pss_cons (ps_expr (pe_call G_check_field (hr.mono (by omega)) (by rfl) m_check_field k_check_field b_check_field .nil pass0 (pa_cons (pv 0) pa_nil))) (pss_cons (ps_expr (pe_call G_check_numbers (hr.mono (by omega)) (by rfl) m_check_numbers k_check_numbers b_check_numbers .nil pass0 (pa_cons (pv 0) (pa_cons (pe_tup (pa_cons (pv 1) pa_nil)) pa_nil)))) (pss_one (ps_ret (pe_call G_negative (hr.mono (by omega)) (by rfl) m_negative k_negative b_negative .nil pass0 (pa_cons (pv 0) (pa_cons (pv 1) pa_nil))))))), ?_⟩
    refine ⟨_, rfl, a, rfl, hf, ?_⟩
    refine ⟨_, rfl, _, rfl, (by show 1 ≤ sizeLine; decide), fun z hz => ?_⟩
    have s1 : Same H (upd H z (.tup [x])) := same_new hz
    refine ⟨a, z, [x], [p], rfl, SqT.of upd_same, .cons (hx.same s1) .nil, by show 1 ≤ 1000; decide, ?_, fun H' s2 => ?_⟩
    · intro t ht
      rcases List.mem_cons.mp ht with rfl | ht
      · exact op.num
      · cases ht
    · have s3 := s1.trans s2
      refine ⟨_, rfl, _, rfl, a, x, p, rfl, hf, hx.same s3, op, h0, fun H'' v s4 hv => q H'' v (s3.trans s4) hv⟩
theorem d_over {P : Program} {w : World} {K : PySem.W.Frag} {mg : Str → Option Value} {base : Heap} (R : Raw K mg "over" s_over) (D_check_field : Def P w K mg base "check_field" 2 ["field"] (spChk)) (D_check_numbers : Def P w K mg base "check_numbers" 2 ["field", "numbers"] (spChkN K)) (D_is_nought : Def P w K mg base "is_nought" 1 ["field", "whole"] (spNou)) (D_flipped : Def P w K mg base "flipped" 3 ["field", "number"] (spOne K true invN)) : Def P w K mg base "over" 4 ["field", "number"] (spOne K true invN) := by
  obtain ⟨f, fd, F, m⟩ := R
  obtain ⟨f_check_field, fd_check_field, G_check_field, m_check_field, k_check_field, b_check_field⟩ := D_check_field
  obtain ⟨f_check_numbers, fd_check_numbers, G_check_numbers, m_check_numbers, k_check_numbers, b_check_numbers⟩ := D_check_numbers
  obtain ⟨f_is_nought, fd_is_nought, G_is_nought, m_is_nought, k_is_nought, b_is_nought⟩ := D_is_nought
  obtain ⟨f_flipped, fd_flipped, G_flipped, m_flipped, k_flipped, b_flipped⟩ := D_flipped
  refine ⟨f, fd, F.ok sc_over (fun vs H Q E h => ?_) (fun cdv A outer s H vs Q E hr h => ?_), m, F.kp, F.binds (ps := ["field", "number"]) fun _ _ _ _ _ _ us hl => match us, hl with | [_, _], _ => rfl⟩
  · exact len_one h

  · obtain ⟨a, x, p, rfl, hf, hx, op, h0, q⟩ := h
    refine ⟨_, (pss_cons (ps_expr (pe_call G_check_field (hr.mono (by omega)) (by rfl) m_check_field k_check_field b_check_field .nil pass0 (pa_cons (pv 0) pa_nil))) (pss_cons (ps_expr (pe_call G_check_numbers (hr.mono (by omega)) (by rfl) m_check_numbers k_check_numbers b_check_numbers .nil pass0 (pa_cons (pv 0) (pa_cons (pe_tup (pa_cons (pv 1) pa_nil)) pa_nil)))) (pss_cons (ps_if (pt_val (pe_call G_is_nought (hr.mono (by omega)) (by rfl) m_is_nought k_is_nought b_is_nought .nil pass0 (pa_cons (pv 0) (pa_cons (pe_ix ix_tup (pv 1) pe_int (fun _ _ => rfl)) pa_nil)))) (pss_one ps_never) pss_nil) (pss_one (ps_ret (pe_call G_flipped (hr.mono (by omega)) (by rfl) m_flipped k_flipped b_flipped .nil pass0 (pa_cons (pv 0) (pa_cons (pv 1) pa_nil)))))))), ?_⟩
    refine ⟨_, rfl, a, rfl, hf, ?_⟩
    refine ⟨_, rfl, _, rfl, (by show 1 ≤ sizeLine; decide), fun z hz => ?_⟩
    have s1 : Same H (upd H z (.tup [x])) := same_new hz
    refine ⟨a, z, [x], [p], rfl, SqT.of upd_same, .cons (hx.same s1) .nil, by show 1 ≤ 1000; decide, ?_, fun H' s2 => ?_⟩
    · intro t ht
      rcases List.mem_cons.mp ht with rfl | ht
      · exact op.num
      · cases ht
    · have s3 := s1.trans s2
      obtain ⟨px, rfl, hx3⟩ := hx.same s3
      refine ⟨_, rfl, _, rfl, px, _, _, _, rfl, rfl, hx3, at0 _ _, a, _, rfl, hf.nn, _, rfl, ?_⟩
      rw [nou_num hf op.num (h0 rfl)]
      refine iteF ?_
      refine ⟨_, rfl, _, rfl, a, _, p, rfl, hf, ⟨px, rfl, hx3⟩, op, h0, fun H'' v s4 hv => q H'' v (s3.trans s4) hv⟩

/-! ## the law's draws -/
/-- the box of draws at its place: the cells' copy at l, how many are read, what is left of a great one, the seed, the count -/
def BoxAt (H : Hp) (box l : Addr) : Prop := ∃ (ns : List Int) (i : Nat) (x s c : Int), H box = some (.lst [.ref l, .int i, .int x, .int s, .int c]) ∧ H l = some (.lst (ns.map V.int)) ∧ l ≠ box ∧ 0 ≤ s ∧ s < 2147483647
def Keep (box : Addr) (H H' : Hp) : Prop := ∀ b o, b ≠ box → H b = some o → H' b = some o
structure Stp (box l : Addr) (H H' : Hp) : Prop where
  keep : Keep box H H'
  box : BoxAt H' box l
theorem Keep.refl (box : Addr) (H : Hp) : Keep box H H := fun _ _ _ h => h
theorem Keep.trans {box : Addr} {H H1 H2 : Hp} (a : Keep box H H1) (b : Keep box H1 H2) : Keep box H H2 := fun c o n h => b c o n (a c o n h)
theorem Keep.upd {box : Addr} {H H1 : Hp} {o : HO} (a : Keep box H H1) : Keep box H (upd H1 box o) := fun c u n h => by
  rw [upd_ne n]
  exact a c u n h
theorem Keep.of {box : Addr} {H H1 : Hp} (a : Same H H1) : Keep box H H1 := fun c u _ h => a c u h
theorem Stp.trans {box l : Addr} {H H1 H2 : Hp} (a : Stp box l H H1) (b : Stp box l H1 H2) : Stp box l H H2 := ⟨a.keep.trans b.keep, b.box⟩
theorem BoxAt.same {H H1 : Hp} {box l : Addr} (h : BoxAt H box l) (e : Same H H1) : BoxAt H1 box l := by
  obtain ⟨ns, i, x, s, c, h1, h2, h3⟩ := h
  exact ⟨ns, i, x, s, c, e _ _ h1, e _ _ h2, h3⟩
theorem Stp.same {H H1 H2 : Hp} {box l : Addr} (h : Stp box l H H1) (e : Same H1 H2) : Stp box l H H2 := ⟨h.keep.trans (Keep.of e), h.box.same e⟩
theorem Stp.refl {H : Hp} {box l : Addr} (h : BoxAt H box l) : Stp box l H H := ⟨Keep.refl _ _, h⟩
/-- a list that was made beside the box is written -/
theorem Stp.put {H H1 : Hp} {box l D : Addr} {o : HO} (h : Stp box l H H1) (hb : BoxAt H box l) (hD : H D = none) : Stp box l H (upd H1 D o) := by
  obtain ⟨k, ns, i, x, s, c, h1, h2, h3⟩ := h
  obtain ⟨_, _, _, _, _, g1, g2, _⟩ := hb
  refine ⟨fun b u n q => ?_, ns, i, x, s, c, ?_, ?_, h3⟩
  · rw [upd_ne (ne_of_none q hD)]
    exact k b u n q
  · rw [upd_ne (ne_of_none g1 hD)]
    exact h1
  · rw [upd_ne (ne_of_none g2 hD)]
    exact h2
theorem BoxAt.ne {H : Hp} {box l D : Addr} (hb : BoxAt H box l) (hD : H D = none) : D ≠ box := by
  obtain ⟨_, _, _, _, _, g1, _⟩ := hb
  exact (ne_of_none g1 hD).symm
/-- numbers stand through draws: a number is not the box -/
theorem NumV.keep {K : PySem.W.Frag} {H H' : Hp} {box l : Addr} {v : V} {q : Pr} (h : NumV K H v q) (hb : BoxAt H box l) (e : Keep box H H') : NumV K H' v q := by
  obtain ⟨p, h1, h2⟩ := h
  obtain ⟨ns, i, x, s, c, b1, _⟩ := hb
  refine ⟨p, h1, ?_⟩
  rcases h2 with (h | ⟨o, h⟩) | h
  · refine .inl (.inl (e _ _ (fun z => ?_) h))
    rw [z, b1] at h
    cases h
  · refine .inl (.inr ⟨o, e _ _ (fun z => ?_) h⟩)
    rw [z, b1] at h
    cases h
  · exact .inr h
theorem a50 (a b c d e : V) : atI [a, b, c, d, e] 0 = some a := rfl
theorem a51 (a b c d e : V) : atI [a, b, c, d, e] 1 = some b := rfl
theorem a52 (a b c d e : V) : atI [a, b, c, d, e] 2 = some c := rfl
theorem a53 (a b c d e : V) : atI [a, b, c, d, e] 3 = some d := rfl
theorem a54 (a b c d e : V) : atI [a, b, c, d, e] 4 = some e := rfl
theorem cpow {i j : Int} (h0 : 0 ≤ j) (h1 : j ≤ 1000000) (h2 : i.natAbs < 2 ^ 64) : CPow i j := ⟨h0, h1, h2⟩
def spDraw : Sp := fun vs H Q _ => ∃ (box l : Addr) (many : Int), vs = [.ref box, .int many] ∧ BoxAt H box l ∧ 0 < many ∧ many.natAbs.log2 < 9000 ∧ ∀ H' r, Stp box l H H' → 0 ≤ r → r < many → Q (.int r) H'
theorem len__law_draw {vs H Q E} (h : spDraw vs H Q E) : vs.length = (["_law_box", "_law_many"] : List Str).length := by
  obtain ⟨f, w, z, rfl, _⟩ := h
  rfl
theorem pos_of {j : Int} (h : 0 < j) : (fun (_ j : Int) => 0 < j) (0 : Int) j := h
theorem box_upd {H H1 : Hp} {box l : Addr} {ns : List Int} {i : Nat} {x s c : Int} (k : Keep box H H1) (b2 : H1 l = some (.lst (ns.map V.int))) (b3 : l ≠ box) (b4 : 0 ≤ s) (b5 : s < 2147483647)   : Stp box l H (upd H1 box (.lst [.ref l, .int i, .int x, .int s, .int c])) :=
  ⟨k.upd, ns, i, x, s, c, upd_same, by rw [upd_ne b3]; exact b2, b3, b4, b5⟩
theorem d__law_draw {P : Program} {w : World} {K : PySem.W.Frag} {mg : Str → Option Value} {base : Heap} (R : Raw K mg "_law_draw" s__law_draw) (B : Bn mg)  : Def P w K mg base "_law_draw" 1 ["_law_box", "_law_many"] (spDraw) := by
  obtain ⟨f, fd, F, m⟩ := R
  refine ⟨f, fd, F.ok sc__law_draw (fun vs H Q E h => ?_) (fun cdv A outer s H vs Q E hr h => ?_), m, F.kp, F.binds (ps := ["_law_box", "_law_many"]) fun _ _ _ _ _ _ us hl => match us, hl with | [_, _], _ => rfl⟩
  · exact len__law_draw h

  · obtain ⟨box, l, many, rfl, hbox, hm, hml, q⟩ := h
    refine ⟨_, (pss_cons (ps_if (PW.pt (pw_and (pt_cmpR op_lt (pe_ix ix_list (pv 0) pe_int (fun _ _ => rfl)) pe_int (nomark _)) (pw_and1 (pt_cmpR op_lt (pe_ix ix_list (pv 0) pe_int (fun _ _ => rfl)) (pe_callB call_len_seq (by rfl) B.len PySem.boot_len (pa_cons (pe_ix ix_list (pv 0) pe_int (fun _ _ => rfl)) pa_nil)) (nomark _))))) (pss_cons (ps_set (i := 2) sc__law_draw.nd rfl (Or.inl rfl) (pe_ix ix_list (pe_ix ix_list (pv 0) pe_int (fun _ _ => rfl)) (pe_ix ix_list (pv 0) pe_int (fun _ _ => rfl)) (fun _ _ => rfl))) (pss_cons (ps_asg (pe_op op_add (pe_ix ix_list (pv 0) pe_int (fun _ _ => rfl)) pe_int) (pg_sub (pv 0) pe_int set_list)) (pss_one (ps_if (pt_cmpR op_ge (pv 2) (pe_op op_pow pe_int pe_int) (nomark _)) (pss_one (ps_asg (pv 2) (pg_sub (pv 0) pe_int set_list))) (pss_one (ps_asg (pe_op op_mod (pe_op op_add (pe_ix ix_list (pv 0) pe_int (fun _ _ => rfl)) (pe_op op_mul (pe_op op_mod (pv 2) pe_int) pe_int)) pe_int) (pg_sub (pv 0) pe_int set_list))))))) pss_nil) (pss_cons (ps_if (pt_cmpR op_gt (pe_ix ix_list (pv 0) pe_int (fun _ _ => rfl)) pe_int (nomark _)) (pss_cons (ps_set (i := 3) sc__law_draw.nd rfl (Or.inl rfl) (pe_op op_mod (pe_ix ix_list (pv 0) pe_int (fun _ _ => rfl)) (pv 1))) (pss_cons (ps_asg (pe_op op_fdivA (pe_ix ix_list (pv 0) pe_int (fun _ _ => rfl)) (pv 1)) (pg_sub (pv 0) pe_int set_list)) (pss_one (ps_ret (pv 3))))) pss_nil) (pss_cons (ps_asg (pe_op op_add (pe_ix ix_list (pv 0) pe_int (fun _ _ => rfl)) pe_int) (pg_sub (pv 0) pe_int set_list)) (pss_cons (ps_set (i := 4) sc__law_draw.nd rfl (Or.inl rfl) (pe_op op_mod (pe_op op_add (pe_ix ix_list (pv 0) pe_int (fun _ _ => rfl)) (pe_op op_mul (pe_ix ix_list (pv 0) pe_int (fun _ _ => rfl)) pe_int)) pe_int)) (pss_cons (ps_asg (pe_op op_mod (pe_op op_add (pe_op op_add (pe_op op_mul (pe_op op_mod (pe_op op_mul (pv 4) (pv 4)) pe_int) (pe_op op_add (pe_op op_mod (pv 4) pe_int) pe_int)) (pe_op op_mul pe_int (pv 4))) pe_int) pe_int) (pg_sub (pv 0) pe_int set_list)) (pss_one (ps_ret (pe_op op_mod (pe_op op_add (pe_op op_fdiv (pe_ix ix_list (pv 0) pe_int (fun _ _ => rfl)) pe_int) (pe_op op_mul (pe_op op_mod (pe_ix ix_list (pv 0) pe_int (fun _ _ => rfl)) pe_int) pe_int)) (pv 1))))))))), ?_⟩
    refine tIfS_join (fun σ' H' => Stp box l H H' ∧ ∃ z, σ' = [some (.ref box), some (.int many), z, none, none]) ?_ (fun rest => ?_)
    · rintro σ1 H1 ⟨⟨k1, ns, i, x, s, c, b1, b2, b3, b4, b5⟩, z, rfl⟩
      have hb1 := SqL.of (K := K) b1
      refine ⟨_, rfl, box, _, _, _, rfl, rfl, hb1, a52 .., _, _, rfl, rfl, _, rfl, ite2 (fun e => ?_) (fun e => ?_)⟩
      · refine ⟨_, rfl, box, _, _, _, rfl, rfl, hb1, a52 .., _, rfl, _, _, rfl, rfl, hm, ?_⟩
        refine ⟨_, rfl, box, _, _, _, rfl, rfl, hb1, a52 .., _, rfl, _, _, rfl, rfl, ⟨by omega, hml⟩, _, rfl, box, _, _, _, rfl, rfl, b1, rfl, ?_⟩
        exact ⟨_, rfl, q _ _ (box_upd k1 b2 b3 b4 b5) (Int.emod_nonneg _ (by omega)) (Int.emod_lt_of_pos _ hm)⟩
      · refine ⟨_, rfl, box, _, _, _, rfl, rfl, hb1, a54 .., _, _, rfl, rfl, _, rfl, box, _, _, _, rfl, rfl, b1, rfl, ?_⟩
        have s2 := box_upd (i := i) (x := x) (c := c + 1) k1 b2 b3 b4 b5
        have e2 : (upd H1 box (.lst [.ref l, .int i, .int x, .int s, .int (c + 1)])) box = some (.lst [.ref l, .int i, .int x, .int s, .int (c + 1)]) := upd_same
        have e3 : (upd H1 box (.lst [.ref l, .int i, .int x, .int s, .int (c + 1)])) l = some (.lst (ns.map V.int)) := by rw [upd_ne b3]; exact b2
        have hb2 := SqL.of (K := K) e2
        refine ⟨_, rfl, box, _, _, _, rfl, rfl, hb2, a53 .., _, rfl, box, _, _, _, rfl, rfl, hb2, a54 .., _, _, rfl, rfl, .inr ⟨by decide, by decide⟩, _, _, rfl, rfl, _, _, rfl, rfl, (by decide : (0 : Int) < 2147483647), ?_⟩
        have hB0 : 0 ≤ (s + (c + 1) * 7919) % 2147483647 := Int.emod_nonneg _ (by decide)
        have hB1 : (s + (c + 1) * 7919) % 2147483647 < 2147483647 := Int.emod_lt_of_pos _ (by decide)
        revert hB0 hB1
        dsimp only
        generalize (s + (c + 1) * 7919) % 2147483647 = B
        intro hB0 hB1
        have hBB : B * B % 2147483629 < 2147483629 ∧ 0 ≤ B * B % 2147483629 := ⟨Int.emod_lt_of_pos _ (by decide), Int.emod_nonneg _ (by decide)⟩
        refine ⟨_, rfl, _, rfl, _, _, rfl, rfl, .inl ⟨by omega, by omega⟩, _, _, rfl, rfl, (by decide : (0 : Int) < 2147483629), _, rfl, _, _, rfl, rfl, (by decide : (0 : Int) < 65521), _, _, rfl, rfl, _, _, rfl, rfl, .inl ⟨by omega, by omega⟩, ?_⟩
        refine ⟨_, rfl, _, _, rfl, rfl, .inl ⟨by decide, by decide⟩, _, _, rfl, rfl, _, _, rfl, rfl, _, _, rfl, rfl, (by decide : (0 : Int) < 2147483647), ?_⟩
        refine ⟨_, rfl, box, _, _, _, rfl, rfl, e2, rfl, ?_⟩
        have hS0 : 0 ≤ (B * B % 2147483629 * (B % 65521 + 3) + 40692 * B + 1013) % 2147483647 := Int.emod_nonneg _ (by decide)
        have hS1 : (B * B % 2147483629 * (B % 65521 + 3) + 40692 * B + 1013) % 2147483647 < 2147483647 := Int.emod_lt_of_pos _ (by decide)
        revert hS0 hS1
        dsimp only
        generalize (B * B % 2147483629 * (B % 65521 + 3) + 40692 * B + 1013) % 2147483647 = S
        intro hS0 hS1
        have s3 := box_upd (i := i) (x := x) (c := c + 1) s2.keep e3 b3 hS0 hS1
        have e4 : (upd (upd H1 box (.lst [.ref l, .int i, .int x, .int s, .int (c + 1)])) box (.lst [.ref l, .int i, .int x, .int S, .int (c + 1)])) box = some (.lst [.ref l, .int i, .int x, .int S, .int (c + 1)]) := upd_same
        have hb3 := SqL.of (K := K) e4
        refine ⟨_, rfl, box, _, _, _, rfl, rfl, hb3, a53 .., _, _, rfl, rfl, ⟨by decide, by decide⟩, _, rfl, box, _, _, _, rfl, rfl, hb3, a53 .., _, _, rfl, rfl, (by decide : (0 : Int) < 8191), _, _, rfl, rfl, .inr ⟨by decide, by decide⟩, _, _, rfl, rfl, _, rfl, _, _, rfl, rfl, hm, ?_⟩
        exact q _ _ s3 (Int.emod_nonneg _ (by omega)) (Int.emod_lt_of_pos _ hm)
    · obtain ⟨ns, i, x, s, c, b1, b2, b3, b4, b5⟩ := id hbox
      have hb1 := SqL.of (K := K) b1
      have hL := SqL.of (K := K) b2
      have k1 := Keep.refl box H
      refine ⟨_, rfl, box, _, _, _, rfl, rfl, hb1, a52 .., _, _, rfl, rfl, _, rfl, ite2 (fun e => ?_) (fun e => ?_)⟩
      · refine ⟨_, rfl, box, _, _, _, rfl, rfl, hb1, a51 .., _, rfl, box, _, _, _, rfl, rfl, hb1, a50 .., l, _, rfl, .inl hL, _, _, rfl, rfl, _, rfl, ite2 (fun e => ?_) (fun e => ?_)⟩
        · have e := of_decide_eq_true e
          rw [List.length_map] at e
          have hi : i < ns.length := by omega
          have hget : (ns.map V.int)[i]? = some (.int ns[i]) := by
            rw [List.getElem?_map, List.getElem?_eq_getElem hi]
            rfl
          refine ⟨_, rfl, box, _, _, _, rfl, rfl, hb1, a50 .., _, rfl, box, _, _, _, rfl, rfl, hb1, a51 .., l, _, _, _, rfl, rfl, hL, atI_nat hget, ?_⟩
          refine ⟨_, rfl, box, _, _, _, rfl, rfl, hb1, a51 .., _, _, rfl, rfl, _, rfl, box, _, _, _, rfl, rfl, b1, rfl, ?_⟩
          have s2 := box_upd (i := i + 1) (x := x) (c := c) k1 b2 b3 b4 b5
          have e2 : (upd H box (.lst [.ref l, .int ((i + 1 : Nat) : Int), .int x, .int s, .int c])) box = some (.lst [.ref l, .int ((i + 1 : Nat) : Int), .int x, .int s, .int c]) := upd_same
          have e3 : (upd H box (.lst [.ref l, .int ((i + 1 : Nat) : Int), .int x, .int s, .int c])) l = some (.lst (ns.map V.int)) := by rw [upd_ne b3]; exact b2
          have hb2 := SqL.of (K := K) e2
          refine ⟨_, rfl, _, _, rfl, rfl, cpow (by decide) (by decide) (by decide), _, _, rfl, rfl, _, rfl, ite2 (fun e => ?_) (fun e => ?_)⟩
          · refine ⟨_, rfl, _, rfl, box, _, _, _, rfl, rfl, e2, rfl, ?_⟩
            exact rest _ _ ⟨box_upd s2.keep e3 b3 b4 b5, _, rfl⟩
          · refine ⟨_, rfl, box, _, _, _, rfl, rfl, hb2, a53 .., _, rfl, _, _, rfl, rfl, (by decide : (0 : Int) < 2147483629), _, _, rfl, rfl, .inr ⟨by decide, by decide⟩, _, _, rfl, rfl, _, _, rfl, rfl, (by decide : (0 : Int) < 2147483647), ?_⟩
            refine ⟨_, rfl, box, _, _, _, rfl, rfl, e2, rfl, ?_⟩
            exact rest _ _ ⟨box_upd s2.keep e3 b3 (Int.emod_nonneg _ (by decide)) (Int.emod_lt_of_pos _ (by decide)), _, rfl⟩
        · exact rest _ _ ⟨Stp.refl hbox, none, rfl⟩
      · exact iteF (rest _ _ ⟨Stp.refl hbox, none, rfl⟩)

/-! ## the law's helpers -/
theorem SqL.keep {K : PySem.W.Frag} {H H' : Hp} {box p : Addr} {xs : List V} (h : SqL K H p xs) (n : p ≠ box) (e : Keep box H H') : SqL K H' p xs := by
  rcases h with (h | ⟨o, h⟩) | h
  · exact .inl (.inl (e _ _ n h))
  · exact .inl (.inr ⟨o, e _ _ n h⟩)
  · exact .inr h
theorem cut_map (ns : List Int) (lo hi : Option Int) : ∃ ms : List Int, cutV (ns.map V.int) lo hi = ms.map V.int := by
  unfold cutV
  rw [← List.map_drop, ← List.map_take]
  exact ⟨_, rfl⟩
/-- _law_open: a new box -/
def spOpen (K : PySem.W.Frag) : Sp := fun vs H Q _ => ∃ (a : Addr) (ns : List Int), vs = [.ref a] ∧ SqL K H a (ns.map V.int) ∧ ∀ H' box l, Same H H' → BoxAt H' box l → Q (.ref box) H'
theorem len__law_open {K vs H Q E} (h : spOpen K vs H Q E) : vs.length = (["_law_script"] : List Str).length := by
  obtain ⟨f, w, rfl, _⟩ := h
  rfl
theorem d__law_open {P : Program} {w : World} {K : PySem.W.Frag} {mg : Str → Option Value} {base : Heap} (R : Raw K mg "_law_open" s__law_open) (B : Bn mg)  : Def P w K mg base "_law_open" 1 ["_law_script"] (spOpen K) := by
  obtain ⟨f, fd, F, m⟩ := R
  refine ⟨f, fd, F.ok sc__law_open (fun vs H Q E h => ?_) (fun cdv A outer s H vs Q E hr h => ?_), m, F.kp, F.binds (ps := ["_law_script"]) fun _ _ _ _ _ _ us hl => match us, hl with | [_], _ => rfl⟩
  · exact len__law_open h

  · obtain ⟨a, ns, rfl, hS, q⟩ := h
    refine ⟨_, (pss_cons (ps_set (i := 1) sc__law_open.nd rfl (Or.inl rfl) pe_int) (pss_cons (ps_for PassesOwn.never rfl (pi_list (pe_slice sl_list (pv 0) po_none (po_some pe_int))) (pg_name (i := 2) sc__law_open.nd rfl (Or.inl rfl)) (pss_one (ps_set (i := 1) sc__law_open.nd rfl (Or.inl rfl) (pe_op op_mod (pe_op op_add (pe_op op_add (pe_op op_mul (pv 1) pe_int) (pe_op op_mod (pv 2) pe_int)) pe_int) pe_int)))) (pss_one (ps_ret (pe_lst (pa_cons (pe_callTy call_list_of (by rfl) B.list (by decide +kernel) (pa_cons (pe_slice sl_list (pv 0) po_none (po_some pe_int)) pa_nil)) (pa_cons pe_int (pa_cons pe_int (pa_cons (pv 1) (pa_cons pe_int pa_nil)))))))))), ?_⟩
    refine ⟨_, rfl, 63, rfl, a, _, rfl, hS, fun p hp => ?_⟩
    obtain ⟨ms, hms⟩ := cut_map ns none (some 63)
    rw [hms]
    have s1 : Same H (upd H p (.lst (ms.map V.int))) := same_new hp
    refine ⟨p, rfl, ⟨_, SqL.of upd_same⟩, for_list (K := K) (a := p) (xs := ms.map V.int) (fun i σ H' => H' = upd H p (.lst (ms.map V.int)) ∧ ∃ (s : Int) (z : Option V), 0 ≤ s ∧ s < 2147483647 ∧ σ = [some (.ref a), some (.int s), z])
      ⟨rfl, 1009, none, by decide, by decide, rfl⟩ (fun i σ H' _ ⟨e, _⟩ => by rw [e]; exact SqL.of upd_same) ?_ ?_⟩
    · rintro i y σ H' hi ⟨rfl, s, z, s0, s1', rfl⟩
      obtain ⟨u, rfl⟩ : ∃ u, y = V.int u := by
        rw [List.getElem?_map] at hi
        cases e : ms[i]? with
        | none =>
          rw [e] at hi
          cases hi
        | some u =>
          rw [e] at hi
          exact ⟨u, (Option.some.inj hi).symm⟩
      refine ⟨_, rfl, _, _, rfl, rfl, .inr ⟨by decide, by decide⟩, _, rfl, _, _, rfl, rfl, (by decide : (0 : Int) < 2147483629), _, _, rfl, rfl, _, _, rfl, rfl, _, _, rfl, rfl, (by decide : (0 : Int) < 2147483647), ?_⟩
      exact ⟨rfl, _, _, Int.emod_nonneg _ (by decide), Int.emod_lt_of_pos _ (by decide), rfl⟩
    · rintro σ H' ⟨rfl, s, z, s0, s1', rfl⟩
      refine ⟨_, rfl, 63, rfl, a, _, rfl, s1.seq hS, fun p2 hp2 => ?_⟩
      rw [hms]
      refine ⟨p2, _, rfl, .inl (SqL.of upd_same), fun l hl => ?_⟩
      have s2 := s1.trans ((same_new hp2).trans (same_new (o := .lst (ms.map V.int)) hl))
      refine ⟨_, rfl, (by show 5 ≤ sizeLine; decide), fun b hb => ?_⟩
      have nlb : l ≠ b := ne_of_none upd_same hb
      refine q _ b l (s2.trans (same_new hb)) ⟨ms, 0, 0, s, 0, upd_same, ?_, nlb, s0, s1'⟩
      rw [upd_ne nlb, upd_same]
theorem at_mem {xs : List V} {r : Int} (h0 : 0 ≤ r) (h1 : r < (xs.length : Int)) : ∃ x, atI xs r = some x ∧ x ∈ xs := by
  obtain ⟨n, rfl⟩ : ∃ n : Nat, r = n := ⟨r.toNat, by omega⟩
  have hn : n < xs.length := by omega
  exact ⟨xs[n], atI_nat (List.getElem?_eq_getElem hn), List.getElem_mem hn⟩
/-- _law_any: some item of the list -/
def spAny (K : PySem.W.Frag) : Sp := fun vs H Q _ => ∃ (box l p : Addr) (xs : List V), vs = [.ref box, .ref p] ∧ BoxAt H box l ∧ SqL K H p xs ∧ p ≠ box ∧ xs ≠ [] ∧ xs.length ≤ 1000 ∧ ∀ H' x, Stp box l H H' → x ∈ xs → Q x H'
theorem len__law_any {K vs H Q E} (h : spAny K vs H Q E) : vs.length = (["_law_box", "_law_some"] : List Str).length := by
  obtain ⟨f, w, _, _, rfl, _⟩ := h
  rfl
theorem log_small {n : Int} (h0 : 0 < n) (h : n < 2 ^ 200) : n.natAbs.log2 < 9000 := by
  have : n.natAbs < 2 ^ 200 := by omega
  exact Nat.lt_of_lt_of_le (PySem.Flt.log2_lt_of (by decide) this) (by decide)
theorem d__law_any {P : Program} {w : World} {K : PySem.W.Frag} {mg : Str → Option Value} {base : Heap} (R : Raw K mg "_law_any" s__law_any) (B : Bn mg) (D__law_draw : Def P w K mg base "_law_draw" 1 ["_law_box", "_law_many"] (spDraw)) : Def P w K mg base "_law_any" 2 ["_law_box", "_law_some"] (spAny K) := by
  obtain ⟨f, fd, F, m⟩ := R
  obtain ⟨f__law_draw, fd__law_draw, G__law_draw, m__law_draw, k__law_draw, b__law_draw⟩ := D__law_draw
  refine ⟨f, fd, F.ok sc__law_any (fun vs H Q E h => ?_) (fun cdv A outer s H vs Q E hr h => ?_), m, F.kp, F.binds (ps := ["_law_box", "_law_some"]) fun _ _ _ _ _ _ us hl => match us, hl with | [_, _], _ => rfl⟩
  · exact len__law_any h

  · obtain ⟨box, l, p, xs, rfl, hb, hS, hn, hne, hl, q⟩ := h
    refine ⟨_, (pss_one (ps_ret (pe_ix ix_list (pv 1) (pe_call G__law_draw (hr.mono (by omega)) (by rfl) m__law_draw k__law_draw b__law_draw .nil pass0 (pa_cons (pv 0) (pa_cons (pe_callB call_len_seq (by rfl) B.len PySem.boot_len (pa_cons (pv 1) pa_nil)) pa_nil))) (fun _ _ => rfl)))), ?_⟩
    have hpos : 0 < xs.length := List.length_pos_iff.mpr hne
    refine ⟨_, rfl, _, rfl, _, rfl, p, _, rfl, .inl hS, box, l, _, rfl, hb, by omega, log_small (by omega) (by omega), fun H' r st h0 h1 => ?_⟩
    obtain ⟨x, hx, hm⟩ := at_mem h0 h1
    exact ⟨p, _, _, _, rfl, rfl, SqL.keep hS hn st.keep, hx, q _ _ st hm⟩
def primesI : List Int := [2, 3, 5, 7, 11, 13, 17, 19, 23, 29, 31, 37, 41, 43, 47, 53, 59, 61, 67, 71, 73, 79, 83, 89, 97]
def spPrimes : Sp := fun vs H Q _ => vs = [] ∧ ∀ p, H p = none → Q (.ref p) (upd H p (.lst (primesI.map V.int)))
theorem len__law_primes {vs H Q E} (h : spPrimes vs H Q E) : vs.length = ([] : List Str).length := by
  obtain ⟨rfl, _⟩ := h
  rfl
theorem d__law_primes {P : Program} {w : World} {K : PySem.W.Frag} {mg : Str → Option Value} {base : Heap} (R : Raw K mg "_law_primes" s__law_primes)  : Def P w K mg base "_law_primes" 1 [] (spPrimes) := by
  obtain ⟨f, fd, F, m⟩ := R
  refine ⟨f, fd, F.ok sc__law_primes (fun vs H Q E h => ?_) (fun cdv A outer s H vs Q E hr h => ?_), m, F.kp, F.binds (ps := []) fun _ _ _ _ _ _ us hl => match us, hl with | [], _ => rfl⟩
  · exact len__law_primes h

  · obtain ⟨rfl, q⟩ := h
    refine ⟨_, (pss_one (ps_ret (pe_lst (pa_cons pe_int (pa_cons pe_int (pa_cons pe_int (pa_cons pe_int (pa_cons pe_int (pa_cons pe_int (pa_cons pe_int (pa_cons pe_int (pa_cons pe_int (pa_cons pe_int (pa_cons pe_int (pa_cons pe_int (pa_cons pe_int (pa_cons pe_int (pa_cons pe_int (pa_cons pe_int (pa_cons pe_int (pa_cons pe_int (pa_cons pe_int (pa_cons pe_int (pa_cons pe_int (pa_cons pe_int (pa_cons pe_int (pa_cons pe_int (pa_cons pe_int pa_nil)))))))))))))))))))))))))))), ?_⟩
    exact ⟨(by show 25 ≤ sizeLine; decide), q⟩
theorem primesI_isF {f : Int} (h : V.int f ∈ primesI.map V.int) : IsF f := by
  obtain ⟨g, hg, e⟩ := List.mem_map.mp h
  have e := V.int.inj e
  subst e
  have key : ∀ x ∈ primesI, x.toNat ∈ primesN ∧ x = (x.toNat : Int) := by decide +kernel
  exact .inr ⟨_, (key _ hg).1, (key _ hg).2⟩
def spField : Sp := fun vs H Q _ => ∃ (box l : Addr), vs = [.ref box] ∧ BoxAt H box l ∧ ∀ H' f, Stp box l H H' → IsF f → Q (.int f) H'
theorem len__law_field {vs H Q E} (h : spField vs H Q E) : vs.length = (["_law_box"] : List Str).length := by
  obtain ⟨f, w, rfl, _⟩ := h
  rfl
theorem isF_prime {p : Nat} (h : p ∈ primesN) : IsF p := .inr ⟨p, h, rfl⟩
theorem d__law_field {P : Program} {w : World} {K : PySem.W.Frag} {mg : Str → Option Value} {base : Heap} (R : Raw K mg "_law_field" s__law_field) (D__law_draw : Def P w K mg base "_law_draw" 1 ["_law_box", "_law_many"] (spDraw)) (D__law_any : Def P w K mg base "_law_any" 2 ["_law_box", "_law_some"] (spAny K)) (D__law_primes : Def P w K mg base "_law_primes" 1 [] (spPrimes)) : Def P w K mg base "_law_field" 3 ["_law_box"] (spField) := by
  obtain ⟨f, fd, F, m⟩ := R
  obtain ⟨f__law_draw, fd__law_draw, G__law_draw, m__law_draw, k__law_draw, b__law_draw⟩ := D__law_draw
  obtain ⟨f__law_any, fd__law_any, G__law_any, m__law_any, k__law_any, b__law_any⟩ := D__law_any
  obtain ⟨f__law_primes, fd__law_primes, G__law_primes, m__law_primes, k__law_primes, b__law_primes⟩ := D__law_primes
  refine ⟨f, fd, F.ok sc__law_field (fun vs H Q E h => ?_) (fun cdv A outer s H vs Q E hr h => ?_), m, F.kp, F.binds (ps := ["_law_box"]) fun _ _ _ _ _ _ us hl => match us, hl with | [_], _ => rfl⟩
  · exact len__law_field h

  · obtain ⟨box, l, rfl, hb, q⟩ := h
    refine ⟨_, (pss_one (ps_ret (pe_ix ix_list (pe_lst (pa_cons pe_int (pa_cons pe_int (pa_cons pe_int (pa_cons pe_int (pa_cons pe_int (pa_cons (pe_call G__law_any (hr.mono (by omega)) (by rfl) m__law_any k__law_any b__law_any .nil pass0 (pa_cons (pv 0) (pa_cons (pe_call0 G__law_primes (hr.mono (by omega)) (by rfl) m__law_primes k__law_primes b__law_primes .nil pass0) pa_nil))) pa_nil))))))) (pe_call G__law_draw (hr.mono (by omega)) (by rfl) m__law_draw k__law_draw b__law_draw .nil pass0 (pa_cons (pv 0) (pa_cons pe_int pa_nil))) (fun _ _ => rfl)))), ?_⟩
    refine ⟨_, rfl, rfl, fun p hp => ?_⟩
    have s1 : Same H (upd H p (.lst (primesI.map V.int))) := same_new hp
    refine ⟨box, l, p, _, rfl, hb.same s1, SqL.of upd_same, hb.ne hp, by decide, by decide, fun H2 x st hx => ?_⟩
    refine ⟨(by show 6 ≤ sizeLine; decide), fun z hz => ?_⟩
    have s3 : Same H2 (upd H2 z (.lst [.int 0, .int 0, .int 2, .int 3, .int 5, x])) := same_new hz
    refine ⟨_, rfl, box, l, _, rfl, st.box.same s3, by decide, by decide +kernel, fun H4 r st4 h0 h1 => ?_⟩
    have hS : SqL K H4 z [.int 0, .int 0, .int 2, .int 3, .int 5, x] := SqL.keep (SqL.of upd_same) (st.box.ne hz) st4.keep
    have stt : Stp box l H H4 := ⟨((Keep.of s1).trans st.keep).trans ((Keep.of s3).trans st4.keep), st4.box⟩
    obtain ⟨f, rfl, hf⟩ : ∃ f, x = V.int f ∧ IsF f := by
      obtain ⟨g, hg, e⟩ := List.mem_map.mp hx
      subst e
      exact ⟨g, rfl, primesI_isF hx⟩
    have hr : r = 0 ∨ r = 1 ∨ r = 2 ∨ r = 3 ∨ r = 4 ∨ r = 5 := by omega
    rcases hr with rfl | rfl | rfl | rfl | rfl | rfl
    · exact ⟨z, _, _, _, rfl, rfl, hS, rfl, q _ _ stt (.inl rfl)⟩
    · exact ⟨z, _, _, _, rfl, rfl, hS, rfl, q _ _ stt (.inl rfl)⟩
    · exact ⟨z, _, _, _, rfl, rfl, hS, rfl, q _ _ stt (isF_prime (p := 2) (by decide))⟩
    · exact ⟨z, _, _, _, rfl, rfl, hS, rfl, q _ _ stt (isF_prime (p := 3) (by decide))⟩
    · exact ⟨z, _, _, _, rfl, rfl, hS, rfl, q _ _ stt (isF_prime (p := 5) (by decide))⟩
    · exact ⟨z, _, _, _, rfl, rfl, hS, rfl, q _ _ stt hf⟩
def spGcd : Sp := fun vs H Q _ => ∃ a b : Int, vs = [.int a, .int b] ∧ Q (.int ((Nat.gcd a.natAbs b.natAbs : Nat) : Int)) H
theorem len__law_gcd {vs H Q E} (h : spGcd vs H Q E) : vs.length = (["_law_one", "_law_other"] : List Str).length := by
  obtain ⟨f, w, rfl, _⟩ := h
  rfl
theorem abs_if (a : Int) : (if a < 0 then -a else a) = (a.natAbs : Int) := by
  split <;> omega
def gcdMu (σ : L2.St) : Nat := match σ with
  | [_, some (.int y)] => y.natAbs
  | _ => 0
theorem test_mono {r : R2} (hr : ∀ x y H Q Q', (∀ z H1, Q z H1 → Q' z H1) → r x y H Q → r x y H Q') (i : Nat) (c : V) : ∀ (σ : L2.St) (H : Hp) (Q Q' : Bool → Hp → Prop), (∀ b H1, Q b H1 → Q' b H1) → tTest (tOp r (tVar i) (tC c)) σ H Q → tTest (tOp r (tVar i) (tC c)) σ H Q' := by
  rintro σ H Q Q' h ⟨v, h1, h2⟩
  exact ⟨v, h1, hr _ _ _ _ _ (fun z H1 ⟨k, e, q⟩ => ⟨k, e, h _ _ q⟩) h2⟩
theorem rI0_mono {g : Int → Int → V} : ∀ x y H (Q Q' : VK), (∀ z H1, Q z H1 → Q' z H1) → rI0 g x y H Q → rI0 g x y H Q' := by
  rintro x y H Q Q' h ⟨i, j, e1, e2, q⟩
  exact ⟨i, j, e1, e2, h _ _ q⟩
theorem d__law_gcd {P : Program} {w : World} {K : PySem.W.Frag} {mg : Str → Option Value} {base : Heap} (R : Raw K mg "_law_gcd" s__law_gcd) (B : Bn mg)  : Def P w K mg base "_law_gcd" 1 ["_law_one", "_law_other"] (spGcd) := by
  obtain ⟨f, fd, F, m⟩ := R
  refine ⟨f, fd, F.ok sc__law_gcd (fun vs H Q E h => ?_) (fun cdv A outer s H vs Q E hr h => ?_), m, F.kp, F.binds (ps := ["_law_one", "_law_other"]) fun _ _ _ _ _ _ us hl => match us, hl with | [_, _], _ => rfl⟩
  · exact len__law_gcd h

  · obtain ⟨a, b, rfl, q⟩ := h
    refine ⟨_, (pss_cons (ps_par (i := 0) (j := 1) (by rfl) sc__law_gcd.nd rfl rfl (by decide) rfl rfl (pa_cons (pe_callB call_abs (by rfl) B.abs (by decide +kernel) (pa_cons (pv 0) pa_nil)) (pa_cons (pe_callB call_abs (by rfl) B.abs (by decide +kernel) (pa_cons (pv 1) pa_nil)) pa_nil)) (by rfl)) (pss_cons (ps_while PassesOwn.never (pt_cmpR op_gt (pv 1) pe_int (nomark _)) (pss_one (ps_par (i := 0) (j := 1) (by rfl) sc__law_gcd.nd rfl rfl (by decide) rfl rfl (pa_cons (pv 1) (pa_cons (pe_op op_mod (pv 0) (pv 1)) pa_nil)) (by rfl)))) (pss_one (ps_ret (pv 0))))), ?_⟩
    refine ⟨_, rfl, _, rfl, _, rfl, _, rfl, _, _, rfl, ?_⟩
    refine while_by (fun σ H' => H' = H ∧ ∃ x y : Nat, σ = [some (.int x), some (.int y)] ∧ Nat.gcd x y = Nat.gcd a.natAbs b.natAbs) (fun σ _ => gcdMu σ) ⟨rfl, a.natAbs, b.natAbs, ?_, rfl⟩ ?_ (test_mono rI0_mono 1 _)
    · rw [abs_if, abs_if]
      rfl
    · rintro σ H' ⟨rfl, x, y, rfl, hg⟩
      refine ⟨_, rfl, _, _, rfl, rfl, _, rfl, ite2 (fun e => ?_) (fun e => ?_)⟩
      · have e := of_decide_eq_true e
        refine ⟨_, rfl, _, rfl, _, rfl, _, _, rfl, rfl, e, _, _, rfl, ?_⟩
        refine ⟨⟨rfl, y, x % y, rfl, ?_⟩, ?_⟩
        · rw [← hg, Nat.gcd_comm y, ← Nat.gcd_rec, Nat.gcd_comm]
        · show (((x : Int) % (y : Int)).natAbs) < ((y : Int)).natAbs
          rw [← Int.natCast_emod, Int.natAbs_natCast, Int.natAbs_natCast]
          exact Nat.mod_lt _ (by omega)
      · have e : ¬ (0 : Int) < (y : Int) := fun z => e (decide_eq_true z)
        have y0 : y = 0 := by omega
        subst y0
        rw [Nat.gcd_zero_right] at hg
        refine ⟨_, rfl, ?_⟩
        rw [hg]
        exact q

/-! ## the law's numbers -/
theorem at_zero {x : V} {xs : List V} : atI (x :: xs) 0 = some x := atI_nat (j := 0) rfl
def filtN (f b : Int) (n : Nat) : List Nat := (List.range n).filter fun k => decide (b * (k : Int) % f = 1)
theorem filtN_succ (f b : Int) (n : Nat) : filtN f b (n + 1) = if b * (n : Int) % f = 1 then filtN f b n ++ [n] else filtN f b n := by
  unfold filtN
  rw [List.range_succ, List.filter_append]
  by_cases h : b * (n : Int) % f = 1
  · rw [if_pos h]
    simp [h]
  · rw [if_neg h]
    simp [h]
theorem ofI_ne {f : Int} (F : Fd f) {b : Int} (h : nouB f b = false) : letI := F.fld; F.ofI b ≠ 0 := by
  intro e
  have h2 := (F.ofI0 b).mp e
  by_cases h0 : f = 0
  · subst h0
    rw [if_pos rfl] at h2
    rw [nouB0, decide_eq_true h2] at h
    cases h
  · rw [if_neg h0] at h2
    rw [nouB1 h0, decide_eq_true h2] at h
    cases h
theorem num_first {f : Int} (hf : IsF f) (h0 : f ≠ 0) {b : Int} (hb : nouB f b = false) (t : Int) : ∃ (k : Nat) (r : List Nat), filtN f b f.toNat = k :: r ∧ (k : Int) < f ∧ low f t b = (t * (k : Int) % f, 1) := by
  obtain ⟨F⟩ := fd_ex hf
  letI := F.fld
  have hx : F.ofI b ≠ 0 := ofI_ne F hb
  have h2 := hf.two h0
  have key : ∀ k : Int, b * k % f = 1 → low f t b = (t * k % f, 1) := by
    intro k hk
    have e1 : F.ofI b * F.ofI k = 1 := by
      apply F.inj
      rw [← F.ofI_mul, F.encI, if_neg h0, hk, F.one]
    have e2 : (F.ofI b)⁻¹ = F.ofI k := by
      have h3 := Lean.Grind.Field.mul_inv_cancel hx
      grind
    rw [← F.low t b hx, e2, ← F.ofI_mul, F.encI, if_neg h0]
  have ex : ∃ k : Nat, k < f.toNat ∧ b * (k : Int) % f = 1 := by
    have hn := F.num ((F.ofI b)⁻¹)
    rcases hn with ⟨e, _⟩ | ⟨_, g2, g0, g1⟩
    · exact absurd e h0
    · refine ⟨(F.enc ((F.ofI b)⁻¹)).1.toNat, by omega, ?_⟩
      have e3 : (((F.enc ((F.ofI b)⁻¹)).1.toNat : Nat) : Int) = (F.enc ((F.ofI b)⁻¹)).1 := Int.toNat_of_nonneg g0
      have e4 : F.ofI ((F.enc ((F.ofI b)⁻¹)).1) = (F.ofI b)⁻¹ := by
        apply F.inj
        rw [F.encI, if_neg h0, Int.emod_eq_of_lt g0 g1, ← g2]
      have e5 : F.ofI (b * (F.enc ((F.ofI b)⁻¹)).1) = 1 := by
        rw [F.ofI_mul, e4]
        exact Lean.Grind.Field.mul_inv_cancel hx
      have e6 := congrArg F.enc e5
      rw [F.encI, if_neg h0, F.one] at e6
      rw [e3]
      exact congrArg Prod.fst e6
  cases hl : filtN f b f.toNat with
  | nil =>
    obtain ⟨k, hk, hk2⟩ := ex
    have hm : k ∈ filtN f b f.toNat := by
      unfold filtN
      rw [List.mem_filter]
      exact ⟨List.mem_range.mpr hk, decide_eq_true hk2⟩
    rw [hl] at hm
    cases hm
  | cons k r =>
    have hm : k ∈ filtN f b f.toNat := by
      rw [hl]
      exact List.mem_cons_self ..
    unfold filtN at hm
    rw [List.mem_filter] at hm
    have h3 := List.mem_range.mp hm.1
    exact ⟨k, r, rfl, by omega, key _ (of_decide_eq_true hm.2)⟩
def spNum (K : PySem.W.Frag) : Sp := fun vs H Q _ => ∃ f t b : Int, vs = [.int f, .int t, .int b] ∧ IsF f ∧ nouB f b = false ∧ (f = 0 → b.natAbs < 2 ^ 9000) ∧ RetN K H Q (low f t b)
theorem len__law_num {K vs H Q E} (h : spNum K vs H Q E) : vs.length = (["_law_field_here", "_law_top", "_law_bottom"] : List Str).length := by
  obtain ⟨f, t, b, rfl, _⟩ := h
  rfl
theorem d__law_num {P : Program} {w : World} {K : PySem.W.Frag} {mg : Str → Option Value} {base : Heap} (R : Raw K mg "_law_num" s__law_num) (B : Bn mg) (D__law_gcd : Def P w K mg base "_law_gcd" 1 ["_law_one", "_law_other"] (spGcd)) : Def P w K mg base "_law_num" 2 ["_law_field_here", "_law_top", "_law_bottom"] (spNum K) := by
  obtain ⟨f, fd, F, m⟩ := R
  obtain ⟨f__law_gcd, fd__law_gcd, G__law_gcd, m__law_gcd, k__law_gcd, b__law_gcd⟩ := D__law_gcd
  refine ⟨f, fd, F.ok sc__law_num (fun vs H Q E h => ?_) (fun cdv A outer s H vs Q E hr h => ?_), m, F.kp, F.binds (ps := ["_law_field_here", "_law_top", "_law_bottom"]) fun _ _ _ _ _ _ us hl => match us, hl with | [_, _, _], _ => rfl⟩
  · exact len__law_num h

  · obtain ⟨a, t, b, rfl, hf, hn, hs, q⟩ := h
    refine ⟨_, (pss_cons (ps_if (pt_cmpR op_gt (pv 0) pe_int (nomark _)) (pss_one (ps_ret (pe_tup (pa_cons (pe_op op_mod (pe_op op_mul (pv 1) (pe_ix ix_list (pe_lc (own := [("_law_k", 3)]) (g := gName 3) rfl sc__law_num.nd (pi_range1 (by rfl) B.range (pa_cons (pv 0) pa_nil)) (blkOk_by (N := ["_law_field_here", "_law_top", "_law_bottom", "_law_k", "_law_part"]) (sc := defScope s__law_num) (by decide +kernel)) (fun _ _ _ _ _ => pg_name (i := 3) sc__law_num.nd rfl (Or.inl rfl)) (fun _ _ _ _ _ => pts_one (pt_cmpR op_eq (pe_op op_mod (pe_op op_mul (pv 2) (pv 3)) (pv 0)) pe_int (nomark _))) (fun _ _ _ _ _ => (pv 3))) pe_int (fun _ _ => rfl))) (pv 0)) (pa_cons pe_int pa_nil))))) pss_nil) (pss_cons (ps_set (i := 4) sc__law_num.nd rfl (Or.inl rfl) (pe_call G__law_gcd (hr.mono (by omega)) (by rfl) m__law_gcd k__law_gcd b__law_gcd .nil pass0 (pa_cons (pv 1) (pa_cons (pv 2) pa_nil)))) (pss_cons (ps_if (pt_cmpR op_lt (pv 2) pe_int (nomark _)) (pss_one (ps_set (i := 4) sc__law_num.nd rfl (Or.inl rfl) (pe_op op_sub pe_int (pv 4)))) pss_nil) (pss_one (ps_ret (pe_tup (pa_cons (pe_op op_fdivA (pv 1) (pv 4)) (pa_cons (pe_op op_fdivA (pv 2) (pv 4)) pa_nil)))))))), ?_⟩
    refine ⟨_, rfl, _, _, rfl, rfl, _, rfl, ite2 (fun e => ?_) (fun e => ?_)⟩
    · have e := of_decide_eq_true e
      have h0 : a ≠ 0 := by omega
      have h2 := hf.two h0
      obtain ⟨k0, r, hk, hk1, hlow⟩ := num_first hf h0 hn t
      refine ⟨_, rfl, _, rfl, a, rfl, by omega, by omega, fun D hD => ?_⟩
      refine lc_range (lo := 0) (n := a.toNat) (fun i H' => Same H H' ∧ H' D = some (.lst ((filtN a b i).map fun k : Nat => V.int (k : Int)))) ⟨same_new hD, upd_same⟩ ?_ ?_
      · rintro i H' hi ⟨s, hD'⟩
        have hsz : ((filtN a b i).map fun k : Nat => V.int (k : Int)).length < sizeLine := by
          rw [List.length_map]
          refine small1000 ?_
          unfold filtN
          have := List.length_filter_le (fun k : Nat => decide (b * (k : Int) % a = 1)) (List.range i)
          rw [List.length_range] at this
          omega
        refine ⟨rfl, _, rfl, _, rfl, _, _, rfl, rfl, .inr ⟨by omega, by omega⟩, _, rfl, _, _, rfl, rfl, (by show (0 : Int) < a; omega), rfl, _, rfl, ite2 (fun e => ?_) (fun e => ?_)⟩
        · have e := eqI e
          rw [Int.zero_add] at e
          refine ⟨_, rfl, _, hD', hsz, same_seqT_upd s hD hD', ?_⟩
          rw [upd_same, filtN_succ, if_pos e, List.map_append, Int.zero_add]
          rfl
        · have e := neI e
          rw [Int.zero_add] at e
          refine ⟨s, ?_⟩
          rw [hD', filtN_succ, if_neg e]
      · rintro H' ⟨s, hD'⟩
        rw [hk] at hD'
        refine ⟨D, _, 0, .int (k0 : Int), rfl, rfl, SqL.of hD', at_zero, t, (k0 : Int), rfl, rfl, .inr ⟨by omega, by omega⟩, _, rfl, _, _, rfl, rfl, (by show (0 : Int) < a; omega), (by show 2 ≤ sizeLine; decide), fun p hp => ?_⟩
        have q2 : RetN K H' Q (low a t b) := fun H2 v s2 hv => q H2 v (s.trans s2) hv
        exact q2.new hlow hp
    · have e : ¬ 0 < a := fun z => e (decide_eq_true z)
      have e0 : a = 0 := by
        have := hf.nn
        omega
      subst e0
      have hb : b ≠ 0 := by
        rw [nouB0] at hn
        exact of_decide_eq_false hn
      have hs := hs rfl
      have hg := gOf_ne (t := t) hb
      have hgl := gOf_le (t := t) hb
      have hq : low 0 t b = (t.fdiv (gOf t b), b.fdiv (gOf t b)) := by
        unfold low
        rw [if_neg (by simp)]
      have hd : ∀ i, CDivA i (gOf t b) := fun i => divA hg (Nat.lt_of_le_of_lt hgl hs) (by decide) (by decide)
      refine ⟨_, rfl, _, rfl, t, b, rfl, ?_⟩
      refine ⟨_, rfl, _, _, rfl, rfl, _, rfl, ite2 (fun e => ?_) (fun e => ?_)⟩
      · have e := of_decide_eq_true e
        have eg : 0 - ((Nat.gcd t.natAbs b.natAbs : Nat) : Int) = gOf t b := by
          unfold gOf
          rw [if_pos e]
          omega
        refine ⟨_, rfl, _, _, rfl, rfl, ?_⟩
        dsimp only
        rw [eg]
        refine ⟨_, rfl, _, rfl, _, _, rfl, rfl, hd _, _, rfl, _, rfl, _, _, rfl, rfl, hd _, (by show 2 ≤ sizeLine; decide), fun p hp => ?_⟩
        exact q.new hq hp
      · have e := of_decide_eq_false (eq_false_of_ne_true e)
        have eg : ((Nat.gcd t.natAbs b.natAbs : Nat) : Int) = gOf t b := by
          unfold gOf
          rw [if_neg e]
        rw [eg]
        refine ⟨_, rfl, _, rfl, _, _, rfl, rfl, hd _, _, rfl, _, rfl, _, _, rfl, rfl, hd _, (by show 2 ≤ sizeLine; decide), fun p hp => ?_⟩
        exact q.new hq hp
/-- _law_number: a small number of the field -/
def spNumber (K : PySem.W.Frag) : Sp := fun vs H Q _ => ∃ (box l : Addr) (f : Int), vs = [.ref box, .int f] ∧ BoxAt H box l ∧ IsF f ∧ ∀ H' v q, Stp box l H H' → NumV K H' v q → IsN f q → Sm 7 q → Q v H'
theorem len__law_number {K vs H Q E} (h : spNumber K vs H Q E) : vs.length = (["_law_box", "_law_field_here"] : List Str).length := by
  obtain ⟨f, w, z, rfl, _⟩ := h
  rfl
theorem NumV.box {K : PySem.W.Frag} {H H' : Hp} {box l p : Addr} {q : Pr} (h : H p = some (.tup [.int q.1, .int q.2])) (hb : BoxAt H box l) (e : Keep box H H') : NumV K H' (.ref p) q :=
  NumV.keep ⟨p, rfl, SqT.of h⟩ hb e
theorem six {r : Int} (h0 : 0 ≤ r) (h1 : r < 6) : r = 0 ∨ r = 1 ∨ r = 2 ∨ r = 3 ∨ r = 4 ∨ r = 5 := by omega
theorem isN_p {f a : Int} (h : f ≠ 0) (h0 : 0 ≤ a) (h1 : a < f) : IsN f (a, 1) := .inr ⟨h, rfl, h0, h1⟩
theorem sm_of {a b : Int} (ha : a.natAbs < 128) (hb : b.natAbs < 128) : Sm 7 (a, b) := ⟨ha, hb⟩
theorem isN_sm {f : Int} {q : Pr} (hf : IsF f) (h0 : f ≠ 0) (h : IsN f q) : Sm 7 q := by
  rcases h with ⟨h, _⟩ | ⟨_, h1, h2, h3⟩
  · exact absurd h h0
  · have := hf.two h0
    refine ⟨?_, ?_⟩
    · show _ < 128
      omega
    · show _ < 128
      omega
theorem d__law_number {P : Program} {w : World} {K : PySem.W.Frag} {mg : Str → Option Value} {base : Heap} (R : Raw K mg "_law_number" s__law_number) (D__law_draw : Def P w K mg base "_law_draw" 1 ["_law_box", "_law_many"] (spDraw)) (D__law_num : Def P w K mg base "_law_num" 2 ["_law_field_here", "_law_top", "_law_bottom"] (spNum K)) : Def P w K mg base "_law_number" 3 ["_law_box", "_law_field_here"] (spNumber K) := by
  obtain ⟨f, fd, F, m⟩ := R
  obtain ⟨f__law_draw, fd__law_draw, G__law_draw, m__law_draw, k__law_draw, b__law_draw⟩ := D__law_draw
  obtain ⟨f__law_num, fd__law_num, G__law_num, m__law_num, k__law_num, b__law_num⟩ := D__law_num
  refine ⟨f, fd, F.ok sc__law_number (fun vs H Q E h => ?_) (fun cdv A outer s H vs Q E hr h => ?_), m, F.kp, F.binds (ps := ["_law_box", "_law_field_here"]) fun _ _ _ _ _ _ us hl => match us, hl with | [_, _], _ => rfl⟩
  · exact len__law_number h

  · obtain ⟨box, l, a, rfl, hb, hf, q⟩ := h
    refine ⟨_, (pss_cons (ps_set (i := 2) sc__law_number.nd rfl (Or.inl rfl) (pe_call G__law_draw (hr.mono (by omega)) (by rfl) m__law_draw k__law_draw b__law_draw .nil pass0 (pa_cons (pv 0) (pa_cons pe_int pa_nil)))) (pss_cons (ps_if (pt_cmpR op_gt (pv 1) pe_int (nomark _)) (pss_one (ps_ret (pe_ix ix_list (pe_lst (pa_cons (pe_tup (pa_cons pe_int (pa_cons pe_int pa_nil))) (pa_cons (pe_tup (pa_cons pe_int (pa_cons pe_int pa_nil))) (pa_cons (pe_tup (pa_cons (pe_op op_sub (pv 1) pe_int) (pa_cons pe_int pa_nil))) (pa_cons (pe_tup (pa_cons (pe_call G__law_draw (hr.mono (by omega)) (by rfl) m__law_draw k__law_draw b__law_draw .nil pass0 (pa_cons (pv 0) (pa_cons (pv 1) pa_nil))) (pa_cons pe_int pa_nil))) (pa_cons (pe_tup (pa_cons pe_int (pa_cons pe_int pa_nil))) (pa_cons (pe_tup (pa_cons pe_int (pa_cons pe_int pa_nil))) pa_nil))))))) (pv 2) (fun _ _ => rfl)))) pss_nil) (pss_cons (ps_set (i := 3) sc__law_number.nd rfl (Or.inl rfl) (pe_ix ix_list (pe_lst (pa_cons pe_int (pa_cons pe_int (pa_cons (pe_un un_neg pe_int) (pa_cons (pe_op op_sub (pe_call G__law_draw (hr.mono (by omega)) (by rfl) m__law_draw k__law_draw b__law_draw .nil pass0 (pa_cons (pv 0) (pa_cons pe_int pa_nil))) pe_int) (pa_cons pe_int (pa_cons (pe_op op_sub (pe_call G__law_draw (hr.mono (by omega)) (by rfl) m__law_draw k__law_draw b__law_draw .nil pass0 (pa_cons (pv 0) (pa_cons pe_int pa_nil))) pe_int) pa_nil))))))) (pv 2) (fun _ _ => rfl))) (pss_cons (ps_set (i := 4) sc__law_number.nd rfl (Or.inl rfl) (pe_ix ix_list (pe_lst (pa_cons pe_int (pa_cons pe_int (pa_cons pe_int (pa_cons (pe_op op_add pe_int (pe_call G__law_draw (hr.mono (by omega)) (by rfl) m__law_draw k__law_draw b__law_draw .nil pass0 (pa_cons (pv 0) (pa_cons pe_int pa_nil)))) (pa_cons pe_int (pa_cons (pe_op op_add pe_int (pe_call G__law_draw (hr.mono (by omega)) (by rfl) m__law_draw k__law_draw b__law_draw .nil pass0 (pa_cons (pv 0) (pa_cons pe_int pa_nil)))) pa_nil))))))) (pv 2) (fun _ _ => rfl))) (pss_one (ps_ret (pe_call G__law_num (hr.mono (by omega)) (by rfl) m__law_num k__law_num b__law_num .nil pass0 (pa_cons pe_int (pa_cons (pv 3) (pa_cons (pv 4) pa_nil)))))))))), ?_⟩
    refine ⟨_, rfl, box, l, _, rfl, hb, by decide, by decide +kernel, fun H1 r st1 r0 r1 => ?_⟩
    refine ⟨_, rfl, _, _, rfl, rfl, _, rfl, ite2 (fun e => ?_) (fun e => ?_)⟩
    · have e := of_decide_eq_true e
      have h0 : a ≠ 0 := by omega
      have h2 := hf.two h0
      -- the six tuples
      refine ⟨(by show 2 ≤ sizeLine; decide), fun p0 n0 => ?_⟩
      refine ⟨(by show 2 ≤ sizeLine; decide), fun p1 n1 => ?_⟩
      refine ⟨_, rfl, _, _, rfl, rfl, (by show 2 ≤ sizeLine; decide), fun p2 n2 => ?_⟩
      have s0 := same_new (o := .tup [.int 0, .int 1]) n0
      have s1 := same_new (o := .tup [.int 1, .int 1]) n1
      have s2 := same_new (o := .tup [.int (a - 1), .int 1]) n2
      have st2 := ((st1.same s0).same s1).same s2
      refine ⟨_, rfl, _, rfl, box, l, _, rfl, st2.box, by omega, log_small (by omega) (by omega), fun H3 d st3 d0 d1 => ?_⟩
      refine ⟨(by show 2 ≤ sizeLine; decide), fun p3 n3 => ?_⟩
      refine ⟨(by show 2 ≤ sizeLine; decide), fun p4 n4 => ?_⟩
      refine ⟨(by show 2 ≤ sizeLine; decide), fun p5 n5 => ?_⟩
      refine ⟨(by show 6 ≤ sizeLine; decide), fun z nz => ?_⟩
      have s3 := same_new (o := .tup [.int d, .int 1]) n3
      have s4 := same_new (o := .tup [.int 0, .int 1]) n4
      have s5 := same_new (o := .tup [.int 1, .int 1]) n5
      have sz := same_new (o := .lst [.ref p0, .ref p1, .ref p2, .ref p3, .ref p4, .ref p5]) nz
      have stt := ((((st2.trans st3).same s3).same s4).same s5).same sz
      have k3 := st3.keep
      have e0 : NumV K H3 (.ref p0) (0, 1) := NumV.box (s2 _ _ (s1 _ _ upd_same)) st2.box k3
      have e1 : NumV K H3 (.ref p1) (1, 1) := NumV.box (s2 _ _ upd_same) st2.box k3
      have e2 : NumV K H3 (.ref p2) (a - 1, 1) := NumV.box (q := (a - 1, 1)) upd_same st2.box k3
      have fin : ∀ {v : V} {x y : Int}, NumV K _ v (x, y) → IsN a (x, y) → Q v _ := fun hv hN => q _ _ _ stt hv hN (isN_sm hf h0 hN)
      rcases six r0 r1 with rfl | rfl | rfl | rfl | rfl | rfl
      · exact ⟨_, rfl, z, _, _, _, rfl, rfl, SqL.of upd_same, rfl, fin (((e0.same s3).same s4 |>.same s5).same sz) (isN_p h0 (by omega) (by omega))⟩
      · exact ⟨_, rfl, z, _, _, _, rfl, rfl, SqL.of upd_same, rfl, fin (((e1.same s3).same s4 |>.same s5).same sz) (isN_p h0 (by omega) (by omega))⟩
      · exact ⟨_, rfl, z, _, _, _, rfl, rfl, SqL.of upd_same, rfl, fin (((e2.same s3).same s4 |>.same s5).same sz) (isN_p h0 (by omega) (by omega))⟩
      · exact ⟨_, rfl, z, _, _, _, rfl, rfl, SqL.of upd_same, rfl, fin ((((NumV.new d 1).same s4).same s5).same sz) (isN_p h0 d0 d1)⟩
      · exact ⟨_, rfl, z, _, _, _, rfl, rfl, SqL.of upd_same, rfl, fin (((NumV.new 0 1).same s5).same sz) (isN_p h0 (by omega) (by omega))⟩
      · exact ⟨_, rfl, z, _, _, _, rfl, rfl, SqL.of upd_same, rfl, fin ((NumV.new 1 1).same sz) (isN_p h0 (by omega) (by omega))⟩
    · have e : ¬ 0 < a := fun z => e (decide_eq_true z)
      have e0 : a = 0 := by
        have := hf.nn
        omega
      subst e0
      -- top
      refine ⟨_, rfl, _, rfl, box, l, _, rfl, st1.box, by decide, by decide +kernel, fun H2 u st2 u0 u1 => ?_⟩
      refine ⟨_, _, rfl, rfl, _, rfl, box, l, _, rfl, st2.box, by decide, by decide +kernel, fun H3 w st3 w0 w1 => ?_⟩
      refine ⟨_, _, rfl, rfl, (by show 6 ≤ sizeLine; decide), fun z nz => ?_⟩
      have st3' := ((st1.trans st2).trans st3).same (same_new (o := .lst [.int 0, .int 1, .int (-1), .int (u - 3), .int 0, .int (w - 99)]) nz)
      have hT : ∃ t : Int, atI [V.int 0, .int 1, .int (-1), .int (u - 3), .int 0, .int (w - 99)] r = some (.int t) ∧ t.natAbs < 128 := by
        rcases six r0 r1 with rfl | rfl | rfl | rfl | rfl | rfl
        · exact ⟨_, rfl, by decide⟩
        · exact ⟨_, rfl, by decide⟩
        · exact ⟨_, rfl, by decide⟩
        · exact ⟨_, rfl, by omega⟩
        · exact ⟨_, rfl, by decide⟩
        · exact ⟨_, rfl, by omega⟩
      obtain ⟨t, ht, htb⟩ := hT
      refine ⟨_, rfl, z, _, _, _, rfl, rfl, SqL.of upd_same, ht, ?_⟩
      -- bottom
      refine ⟨_, rfl, box, l, _, rfl, st3'.box, by decide, by decide +kernel, fun H4 u' st4 u0' u1' => ?_⟩
      refine ⟨_, _, rfl, rfl, _, rfl, box, l, _, rfl, st4.box, by decide, by decide +kernel, fun H5 w' st5 w0' w1' => ?_⟩
      refine ⟨_, _, rfl, rfl, (by show 6 ≤ sizeLine; decide), fun z' nz' => ?_⟩
      have st5' := ((st3'.trans st4).trans st5).same (same_new (o := .lst [.int 1, .int 1, .int 1, .int (1 + u'), .int 1, .int (1 + w')]) nz')
      have hB : ∃ b : Int, atI [V.int 1, .int 1, .int 1, .int (1 + u'), .int 1, .int (1 + w')] r = some (.int b) ∧ 0 < b ∧ b.natAbs < 128 := by
        rcases six r0 r1 with rfl | rfl | rfl | rfl | rfl | rfl
        · exact ⟨_, rfl, by decide, by decide⟩
        · exact ⟨_, rfl, by decide, by decide⟩
        · exact ⟨_, rfl, by decide, by decide⟩
        · exact ⟨_, rfl, by omega, by omega⟩
        · exact ⟨_, rfl, by decide, by decide⟩
        · exact ⟨_, rfl, by omega, by omega⟩
      obtain ⟨b, hbt, hb0, hbb⟩ := hB
      refine ⟨_, rfl, z', _, _, _, rfl, rfl, SqL.of upd_same, hbt, ?_⟩
      have hbn : b ≠ 0 := by omega
      have hle := low0_le (t := t) hbn
      refine ⟨_, rfl, _, rfl, 0, t, b, rfl, hf, by rw [nouB0]; exact decide_eq_false hbn, fun _ => Nat.lt_trans hbb (Nat.pow_lt_pow_right (a := 2) (m := 7) (by decide) (by decide)), fun H' v s hv => ?_⟩
      exact q _ _ _ (st5'.same s) hv (isN_low0 hbn) ⟨Nat.lt_of_le_of_lt hle.1 htb, Nat.lt_of_le_of_lt hle.2 hbb⟩

/-! ## the field's numbers on the heap -/
theorem eqv_pr (p q : Pr) : PyData.eqv (.tuple [.int p.1, .int p.2]) (.tuple [.int q.1, .int q.2]) = decide (p = q) := by
  obtain ⟨a, b⟩ := p
  obtain ⟨c, d⟩ := q
  show ((a == c) && ((b == d) && true)) = decide ((a, b) = (c, d))
  by_cases h : a = c
  · by_cases h2 : b = d
    · subst h; subst h2; simp
    · simp [h2]
  · simp [h]
theorem NumV.dp {K : PySem.W.Frag} {H : Hp} {v : V} {q : Pr} (h : NumV K H v q) : Dp K H v (.tuple [.int q.1, .int q.2]) := by
  obtain ⟨p, rfl, h⟩ := h
  exact .tup h (.cons (.int _) (.cons (.int _) .nil))
theorem shaped_pr (a b : Int) : SeqAt.shaped (.tuple [.int a, .int b]) = true := rfl
theorem ne_val {K : PySem.W.Frag} {H : Hp} {x y : V} {p q : Pr} {Q : VK} (hx : NumV K H x p) (hy : NumV K H y q) (k : Q (.bl (!decide (p = q))) H) : rNeD K x y H Q :=
  ⟨_, _, hx.dp, hy.dp, shaped_pr _ _, shaped_pr _ _, by rw [eqv_pr]; exact k⟩
theorem eq_val {K : PySem.W.Frag} {H : Hp} {x y : V} {p q : Pr} {Q : VK} (hx : NumV K H x p) (hy : NumV K H y q) (k : Q (.bl (decide (p = q))) H) : rEqD K x y H Q :=
  ⟨_, _, hx.dp, hy.dp, shaped_pr _ _, shaped_pr _ _, by rw [eqv_pr]; exact k⟩
theorem ne_no {K : PySem.W.Frag} {H : Hp} {x y : V} {p q : Pr} {Q : VK} (hx : NumV K H x p) (hy : NumV K H y q) (e : p = q) (k : Q (.bl false) H) : rNeD K x y H Q :=
  ne_val hx hy (by rw [decide_eq_true e]; exact k)
section
variable {f : Int} (F : Fd f) (hf : IsF f)
include hf
theorem sm_big {x : F.F} (h0 : f ≠ 0) : Sm 7 (F.enc x) := isN_sm hf h0 (F.num x)
theorem sm_low {n : Nat} {t b : Int} (hb : b ≠ 0) (ht : t.natAbs < 2 ^ n) (hb2 : b.natAbs < 2 ^ n) : Sm n (low 0 t b) := by
  have h := low0_le (t := t) hb
  exact ⟨Nat.lt_of_le_of_lt h.1 ht, Nat.lt_of_le_of_lt h.2 hb2⟩
theorem sm_add {n m : Nat} {x y : F.F} (h7 : 7 ≤ n) (hx : Sm n (F.enc x)) (hy : Sm m (F.enc y)) : letI := F.fld; Sm (n + m + 1) (F.enc (x + y)) := by
  by_cases h0 : f = 0
  · subst h0
    rw [F.add]
    have nx := (F.num x).den.1
    have ny := (F.num y).den.1
    show Sm _ (low 0 _ _)
    refine sm_low hf (Int.mul_ne_zero (by omega) (by omega)) ?_ ?_
    · have h1 := mul_small hx.1 hy.2
      have h2 := mul_small hy.1 hx.2
      rw [Nat.add_comm m n] at h2
      have h3 := Int.natAbs_add_le ((F.enc x).1 * (F.enc y).2) ((F.enc y).1 * (F.enc x).2)
      rw [Nat.pow_succ]
      omega
    · exact Nat.lt_of_lt_of_le (mul_small hx.2 hy.2) (Nat.pow_le_pow_right (by decide) (by omega))
  · exact (sm_big F hf h0).mono (by omega)
theorem sm_mul {n m : Nat} {x y : F.F} (h7 : 7 ≤ n) (hx : Sm n (F.enc x)) (hy : Sm m (F.enc y)) : letI := F.fld; Sm (n + m) (F.enc (x * y)) := by
  by_cases h0 : f = 0
  · subst h0
    rw [F.mul]
    have nx := (F.num x).den.1
    have ny := (F.num y).den.1
    show Sm _ (low 0 _ _)
    exact sm_low hf (Int.mul_ne_zero (by omega) (by omega)) (mul_small hx.1 hy.1) (mul_small hx.2 hy.2)
  · exact (sm_big F hf h0).mono (by omega)
theorem sm_neg {n : Nat} {x : F.F} (h7 : 7 ≤ n) (hx : Sm n (F.enc x)) : letI := F.fld; Sm n (F.enc (-x)) := by
  by_cases h0 : f = 0
  · subst h0
    rw [F.neg]
    refine ⟨?_, hx.2⟩
    show (-(F.enc x).1).natAbs < _
    rw [Int.natAbs_neg]
    exact hx.1
  · exact (sm_big F hf h0).mono h7
theorem enc_ne {x : F.F} (hx : letI := F.fld; x ≠ 0) : (F.enc x).1 ≠ 0 := by
  intro e
  apply hx
  apply F.inj
  rw [F.zero]
  rcases F.num x with ⟨h0, h1, h2⟩ | ⟨_, h1, _⟩
  · have h2 : Nat.gcd (F.enc x).1.natAbs (F.enc x).2.natAbs = 1 := h2
    rw [e] at h2
    have h3 : (F.enc x).2.natAbs = 1 := by simpa using h2
    exact Prod.ext e (by show (F.enc x).2 = 1; omega)
  · exact Prod.ext e h1
theorem sm_inv {n : Nat} {x : F.F} (h7 : 7 ≤ n) (hx : Sm n (F.enc x)) (h : letI := F.fld; x ≠ 0) : letI := F.fld; Sm n (F.enc (x⁻¹)) := by
  by_cases h0 : f = 0
  · subst h0
    rw [F.inv x h]
    exact sm_low hf (enc_ne F hf h) hx.2 hx.1
  · exact (sm_big F hf h0).mono h7
variable {K : PySem.W.Frag} {H : Hp} {Q : VK} {v v' : V} {x y : F.F} {n m : Nat}
theorem two_add (h1 : NumV K H v (F.enc x)) (h2 : NumV K H v' (F.enc y)) (s1 : Sm n (F.enc x)) (s2 : Sm m (F.enc y)) (hn : n ≤ 4000) (hm : m ≤ 4000) (k : letI := F.fld; ∀ H' u, Same H H' → NumV K H' u (F.enc (x + y)) → Q u H') :
    spTwo K addN [.int f, v, v'] H Q E0 :=
  ⟨f, v, v', _, _, rfl, hf, h1, h2, ⟨F.num x, s1.mono hn⟩, ⟨F.num y, s2.mono hm⟩, fun H' u s hu => k H' u s (by rw [F.add]; exact hu)⟩
theorem two_mul (h1 : NumV K H v (F.enc x)) (h2 : NumV K H v' (F.enc y)) (s1 : Sm n (F.enc x)) (s2 : Sm m (F.enc y)) (hn : n ≤ 4000) (hm : m ≤ 4000) (k : letI := F.fld; ∀ H' u, Same H H' → NumV K H' u (F.enc (x * y)) → Q u H') :
    spTwo K mulN [.int f, v, v'] H Q E0 :=
  ⟨f, v, v', _, _, rfl, hf, h1, h2, ⟨F.num x, s1.mono hn⟩, ⟨F.num y, s2.mono hm⟩, fun H' u s hu => k H' u s (by rw [F.mul]; exact hu)⟩
theorem one_neg (h1 : NumV K H v (F.enc x)) (s1 : Sm n (F.enc x)) (hn : n ≤ 4000) (k : letI := F.fld; ∀ H' u, Same H H' → NumV K H' u (F.enc (-x)) → Q u H') : spOne K false negN [.int f, v] H Q E0 :=
  ⟨f, v, _, rfl, hf, h1, ⟨F.num x, s1.mono hn⟩, (fun z => Bool.noConfusion z), fun H' u s hu => k H' u s (by rw [F.neg]; exact hu)⟩
theorem one_inv (h1 : NumV K H v (F.enc x)) (s1 : Sm n (F.enc x)) (hn : n ≤ 4000) (h0 : letI := F.fld; x ≠ 0) (k : letI := F.fld; ∀ H' u, Same H H' → NumV K H' u (F.enc (x⁻¹)) → Q u H') : spOne K true invN [.int f, v] H Q E0 :=
  ⟨f, v, _, rfl, hf, h1, ⟨F.num x, s1.mono hn⟩, (fun _ => enc_ne F hf h0), fun H' u s hu => k H' u s (by rw [F.inv x h0]; exact hu)⟩
end
theorem NumV.put {K : PySem.W.Frag} {H : Hp} {D : Addr} {xs : List V} {o : HO} {v : V} {q : Pr} (h : NumV K H v q) (hD : H D = some (.lst xs)) : NumV K (upd H D o) v q := by
  obtain ⟨p, h1, h2⟩ := h
  refine ⟨p, h1, ?_⟩
  have ne : ∀ u, H p = some u → (∀ z, u ≠ .lst z) → p ≠ D := fun u hu hn e => by
    rw [e, hD] at hu
    exact hn _ (Option.some.inj hu).symm
  rcases h2 with (h | ⟨o', h⟩) | h
  · refine .inl (.inl ?_)
    rw [upd_ne (ne _ h fun z e => by cases e)]
    exact h
  · refine .inl (.inr ⟨o', ?_⟩)
    rw [upd_ne (ne _ h fun z e => by cases e)]
    exact h
  · exact .inr h
theorem NumsV.snoc {K : PySem.W.Frag} {H : Hp} : ∀ {vs : List V} {qs : List Pr} {v : V} {q : Pr}, NumsV K H vs qs → NumV K H v q → NumsV K H (vs ++ [v]) (qs ++ [q])
  | _, _, _, _, .nil, h => .cons h .nil
  | _, _, _, _, .cons r t, h => .cons r (NumsV.snoc t h)
theorem NumsV.map {K : PySem.W.Frag} {H H' : Hp} (g : ∀ v q, NumV K H v q → NumV K H' v q) : ∀ {vs : List V} {qs : List Pr}, NumsV K H vs qs → NumsV K H' vs qs
  | _, _, .nil => .nil
  | _, _, .cons r t => .cons (g _ _ r) (NumsV.map g t)
theorem NumsV.length {K : PySem.W.Frag} {H : Hp} {vs : List V} {qs : List Pr} (h : NumsV K H vs qs) : vs.length = qs.length := Paired.length h

def spLaw (K : PySem.W.Frag) : Sp := fun vs H Q _ => ∃ (a : Addr) (ns : List Int), vs = [.ref a] ∧ SqL K H a (ns.map V.int) ∧ ns.length ≤ 63 ∧ ∀ H', Q (.bl true) H'
theorem len_law {K vs H Q E} (h : spLaw K vs H Q E) : vs.length = (["_law_script"] : List Str).length := by
  obtain ⟨f, t, rfl, _⟩ := h
  rfl
def RawD (K : PySem.W.Frag) (mg : Str → Option Value) (x : Str) (st : Stmt) (dvs : List V) : Prop := ∃ (f : Addr) (fd : FuncData), FunD K x x (defArgs st) (defBody st) (defScope st) dvs [] f fd ∧ mg x = some (.ref f)
theorem made_self {f : Int} (hf : IsF f) {p : Pr} (h : IsN f p) : nouB f p.2 = false ∧ low f p.1 p.2 = p := by
  obtain ⟨F⟩ := fd_ex hf
  letI := F.fld
  have hn : nouB f p.2 = false := by
    rcases h with ⟨rfl, h1, _⟩ | ⟨h0, h1, _⟩
    · rw [nouB0]
      exact decide_eq_false (by omega)
    · have := hf.two h0
      rw [nouB1 h0, h1, Int.emod_eq_of_lt (by omega) (by omega)]
      rfl
  refine ⟨hn, ?_⟩
  rcases h with ⟨rfl, h1, h2⟩ | ⟨h0, h1, h2, h3⟩
  · have h2 : Nat.gcd p.1.natAbs p.2.natAbs = 1 := h2
    unfold low gOf
    rw [if_neg (by simp), if_neg (by omega), h2]
    show (p.1.fdiv 1, p.2.fdiv 1) = p
    rw [Int.fdiv_one, Int.fdiv_one]
  · have hb : F.ofI 1 ≠ 0 := by
      rw [F.ofI_one]
      exact fun e => Lean.Grind.Field.zero_ne_one e.symm
    rw [h1, ← F.low _ _ hb, F.ofI_one, Lean.Grind.Field.inv_one, Lean.Grind.Semiring.mul_one, F.encI, if_neg h0, Int.emod_eq_of_lt h2 h3, ← h1]
theorem len_made {K vs H Q E} (h : spMade K vs H Q E) : vs.length = (["field", "top", "bottom"] : List Str).length := by
  obtain ⟨f, t, b, rfl, _⟩ := h
  rfl
theorem d_made {P : Program} {w : World} {K : PySem.W.Frag} {mg : Str → Option Value} {base : Heap} (R : RawD K mg "made" s_made [.int 1]) (D_check_field : Def P w K mg base "check_field" 2 ["field"] spChk) (D_is_nought : Def P w K mg base "is_nought" 1 ["field", "whole"] spNou) (D_lowest : Def P w K mg base "lowest" 2 ["field", "top", "bottom"] (spLow K)) : Def P w K mg base "made" 3 ["field", "top", "bottom"] (spMade K) := by
  obtain ⟨f, fd, F, m⟩ := R
  obtain ⟨f_check_field, fd_check_field, G_check_field, m_check_field, k_check_field, b_check_field⟩ := D_check_field
  obtain ⟨f_is_nought, fd_is_nought, G_is_nought, m_is_nought, k_is_nought, b_is_nought⟩ := D_is_nought
  obtain ⟨f_lowest, fd_lowest, G_lowest, m_lowest, k_lowest, b_lowest⟩ := D_lowest
  refine ⟨f, fd, F.ok (CX := CX0) sc_made (fun vs H Q E h => ?_) (fun cdv A outer s H vs Q E hr h => ?_), m, F.kp, ?_⟩
  · exact len_made h
  · obtain ⟨a, t, b, rfl, hf, hn, hs, q⟩ := h
    refine ⟨_, (pss_cons (ps_expr (pe_call G_check_field (hr.mono (by omega)) (by rfl) m_check_field k_check_field b_check_field .nil pass0 (pa_cons (pv 0) pa_nil))) (pss_cons (ps_if (pt_val (pe_call G_is_nought (hr.mono (by omega)) (by rfl) m_is_nought k_is_nought b_is_nought .nil pass0 (pa_cons (pv 0) (pa_cons (pv 2) pa_nil)))) (pss_one ps_never) pss_nil) (pss_one (ps_ret (pe_call G_lowest (hr.mono (by omega)) (by rfl) m_lowest k_lowest b_lowest .nil pass0 (pa_cons (pv 0) (pa_cons (pv 1) (pa_cons (pv 2) pa_nil)))))))), ?_⟩
    refine ⟨_, rfl, a, rfl, hf, ?_⟩
    refine ⟨_, rfl, _, rfl, a, b, rfl, hf.nn, _, rfl, ?_⟩
    rw [hn]
    exact iteF ⟨_, rfl, _, rfl, _, rfl, a, t, b, rfl, hf, hn, hs, q⟩
  · obtain ⟨ds, hd, hb⟩ := F.binds1 (ps := ["field", "top", "bottom"]) 3 1 (by simp) rfl fun T kV doc pm an cdv ct us its hu hi => match us, hu, its, hi with | [_, _, _], _, [_], _ => ⟨_, rfl, by first | rfl | with_unfolding_all rfl | kernel_rfl⟩
    cases hd
    exact hb
theorem law_ok {P : Program} {w : World} {K : PySem.W.Frag} {mg : Str → Option Value} {base : Heap} {f : Addr} {fd : FuncData} (F : Fun K "law" "law" s_law f fd) (B : Bn mg) (D__law_open : Def P w K mg base "_law_open" 1 ["_law_script"] (spOpen K)) (D__law_field : Def P w K mg base "_law_field" 3 ["_law_box"] (spField)) (D_plus : Def P w K mg base "plus" 3 ["field", "one", "other"] (spTwo K addN)) (D_times : Def P w K mg base "times" 4 ["field", "one", "other"] (spTwo K mulN)) (D__law_number : Def P w K mg base "_law_number" 3 ["_law_box", "_law_field_here"] (spNumber K)) (D_made : Def P w K mg base "made" 3 ["field", "top", "bottom"] (spMade K)) (D_less : Def P w K mg base "less" 3 ["field", "number"] (spOne K false negN)) (D_over : Def P w K mg base "over" 4 ["field", "number"] (spOne K true invN)) : FnOk P w K mg base CX0 5 f fd ["_law_script"] (spLaw K) := by
  obtain ⟨f__law_open, fd__law_open, G__law_open, m__law_open, k__law_open, b__law_open⟩ := D__law_open
  obtain ⟨f__law_field, fd__law_field, G__law_field, m__law_field, k__law_field, b__law_field⟩ := D__law_field
  obtain ⟨f_plus, fd_plus, G_plus, m_plus, k_plus, b_plus⟩ := D_plus
  obtain ⟨f_times, fd_times, G_times, m_times, k_times, b_times⟩ := D_times
  obtain ⟨f__law_number, fd__law_number, G__law_number, m__law_number, k__law_number, b__law_number⟩ := D__law_number
  obtain ⟨f_made, fd_made, G_made, m_made, k_made, b_made⟩ := D_made
  obtain ⟨f_less, fd_less, G_less, m_less, k_less, b_less⟩ := D_less
  obtain ⟨f_over, fd_over, G_over, m_over, k_over, b_over⟩ := D_over
  refine F.ok sc_law (fun vs H Q E h => ?_) (fun cdv A outer s H vs Q E hr h => ?_)
  · exact len_law h

  · obtain ⟨a, ns, rfl, hS, hlen, q⟩ := h
    refine ⟨_, (pss_cons (ps_set (i := 1) sc_law.nd rfl (Or.inr rfl) (pe_call G__law_open (hr.mono (by omega)) (by rfl) m__law_open k__law_open b__law_open .nil pass0 (pa_cons (pv 0) pa_nil))) (pss_cons (ps_for PassesOwn.never rfl (pi_range1 (by rfl) B.range (pa_cons pe_int pa_nil)) (pg_name (i := 2) sc_law.nd rfl (Or.inl rfl)) (pss_cons (ps_set (i := 3) sc_law.nd rfl (Or.inr rfl) (pe_call G__law_field (hr.mono (by omega)) (by rfl) m__law_field k__law_field b__law_field .nil pass0 (pa_cons (pv 1) pa_nil))) (pss_cons (ps_asg (pe_lc (own := [("_law_k", 4)]) (g := gName 4) (tt := tYes) rfl sc_law.nd (pi_range1 (by rfl) B.range (pa_cons pe_int pa_nil)) (blkOk_by (N := ["_law_script", "_law_box", "_law_turn", "_law_field_here", "_law_k", "_law_one", "_law_two", "_law_three", "_law_parts", "_law_more"]) (sc := defScope s_law) (by decide +kernel)) (fun _ _ _ _ _ => pg_name (i := 4) sc_law.nd rfl (Or.inl rfl)) (fun _ _ _ _ _ => pts_nil) (fun _ _ _ _ _ => (pe_call G__law_number (hr.mono (by omega)) (by rfl) m__law_number k__law_number b__law_number .nil pass0 (pa_cons (pv 1) (pa_cons (pv 3) pa_nil))))) (pg_unl (by rfl) (pgs_cons (pg_name (i := 5) sc_law.nd rfl (Or.inl rfl)) (pgs_cons (pg_name (i := 6) sc_law.nd rfl (Or.inl rfl)) (pgs_cons (pg_name (i := 7) sc_law.nd rfl (Or.inl rfl)) pgs_nil))))) (pss_cons (ps_if (PW.pt (pw_or (pt_cmpR (op_neD hr.units) (pe_call G_plus (hr.mono (by omega)) (by rfl) m_plus k_plus b_plus .nil pass0 (pa_cons (pv 3) (pa_cons (pv 5) (pa_cons (pv 6) pa_nil)))) (pe_call G_plus (hr.mono (by omega)) (by rfl) m_plus k_plus b_plus .nil pass0 (pa_cons (pv 3) (pa_cons (pv 6) (pa_cons (pv 5) pa_nil)))) (nomark _)) (pw_or1 (pt_cmpR (op_neD hr.units) (pe_call G_times (hr.mono (by omega)) (by rfl) m_times k_times b_times .nil pass0 (pa_cons (pv 3) (pa_cons (pv 5) (pa_cons (pv 6) pa_nil)))) (pe_call G_times (hr.mono (by omega)) (by rfl) m_times k_times b_times .nil pass0 (pa_cons (pv 3) (pa_cons (pv 6) (pa_cons (pv 5) pa_nil)))) (nomark _))))) (pss_one (ps_ret pe_bl)) pss_nil) (pss_cons (ps_if (pt_cmpR (op_neD hr.units) (pe_call G_plus (hr.mono (by omega)) (by rfl) m_plus k_plus b_plus .nil pass0 (pa_cons (pv 3) (pa_cons (pe_call G_plus (hr.mono (by omega)) (by rfl) m_plus k_plus b_plus .nil pass0 (pa_cons (pv 3) (pa_cons (pv 5) (pa_cons (pv 6) pa_nil)))) (pa_cons (pv 7) pa_nil)))) (pe_call G_plus (hr.mono (by omega)) (by rfl) m_plus k_plus b_plus .nil pass0 (pa_cons (pv 3) (pa_cons (pv 5) (pa_cons (pe_call G_plus (hr.mono (by omega)) (by rfl) m_plus k_plus b_plus .nil pass0 (pa_cons (pv 3) (pa_cons (pv 6) (pa_cons (pv 7) pa_nil)))) pa_nil)))) (nomark _)) (pss_one (ps_ret pe_bl)) pss_nil) (pss_cons (ps_if (pt_cmpR (op_neD hr.units) (pe_call G_times (hr.mono (by omega)) (by rfl) m_times k_times b_times .nil pass0 (pa_cons (pv 3) (pa_cons (pe_call G_times (hr.mono (by omega)) (by rfl) m_times k_times b_times .nil pass0 (pa_cons (pv 3) (pa_cons (pv 5) (pa_cons (pv 6) pa_nil)))) (pa_cons (pv 7) pa_nil)))) (pe_call G_times (hr.mono (by omega)) (by rfl) m_times k_times b_times .nil pass0 (pa_cons (pv 3) (pa_cons (pv 5) (pa_cons (pe_call G_times (hr.mono (by omega)) (by rfl) m_times k_times b_times .nil pass0 (pa_cons (pv 3) (pa_cons (pv 6) (pa_cons (pv 7) pa_nil)))) pa_nil)))) (nomark _)) (pss_one (ps_ret pe_bl)) pss_nil) (pss_cons (ps_set (i := 8) sc_law.nd rfl (Or.inl rfl) (pe_call G_plus (hr.mono (by omega)) (by rfl) m_plus k_plus b_plus .nil pass0 (pa_cons (pv 3) (pa_cons (pe_call G_times (hr.mono (by omega)) (by rfl) m_times k_times b_times .nil pass0 (pa_cons (pv 3) (pa_cons (pv 5) (pa_cons (pv 6) pa_nil)))) (pa_cons (pe_call G_times (hr.mono (by omega)) (by rfl) m_times k_times b_times .nil pass0 (pa_cons (pv 3) (pa_cons (pv 5) (pa_cons (pv 7) pa_nil)))) pa_nil))))) (pss_cons (ps_if (pt_cmpR (op_neD hr.units) (pe_call G_times (hr.mono (by omega)) (by rfl) m_times k_times b_times .nil pass0 (pa_cons (pv 3) (pa_cons (pv 5) (pa_cons (pe_call G_plus (hr.mono (by omega)) (by rfl) m_plus k_plus b_plus .nil pass0 (pa_cons (pv 3) (pa_cons (pv 6) (pa_cons (pv 7) pa_nil)))) pa_nil)))) (pv 8) (nomark _)) (pss_one (ps_ret pe_bl)) pss_nil) (pss_cons (ps_if (PW.pt (pw_or (pt_cmpR (op_neD hr.units) (pe_call G_plus (hr.mono (by omega)) (by rfl) m_plus k_plus b_plus .nil pass0 (pa_cons (pv 3) (pa_cons (pv 5) (pa_cons (pe_call G_less (hr.mono (by omega)) (by rfl) m_less k_less b_less .nil pass0 (pa_cons (pv 3) (pa_cons (pv 5) pa_nil))) pa_nil)))) (pe_tup (pa_cons pe_int (pa_cons pe_int pa_nil))) (nomark _)) (pw_or1 (pt_cmpR (op_neD hr.units) (pe_call G_plus (hr.mono (by omega)) (by rfl) m_plus k_plus b_plus .nil pass0 (pa_cons (pv 3) (pa_cons (pv 5) (pa_cons (pe_tup (pa_cons pe_int (pa_cons pe_int pa_nil))) pa_nil)))) (pv 5) (nomark _))))) (pss_one (ps_ret pe_bl)) pss_nil) (pss_cons (ps_if (PW.pt (pw_or (pt_cmpR (op_neD hr.units) (pe_call G_times (hr.mono (by omega)) (by rfl) m_times k_times b_times .nil pass0 (pa_cons (pv 3) (pa_cons (pv 5) (pa_cons (pe_tup (pa_cons pe_int (pa_cons pe_int pa_nil))) pa_nil)))) (pv 5) (nomark _)) (pw_or1 (pt_cmpR (op_neD hr.units) (pe_call G_made (hr.mono (by omega)) (by rfl) m_made k_made b_made .nil pass0 (pa_cons (pv 3) (pa_cons (pe_ix ix_tup (pv 5) pe_int (fun _ _ => rfl)) (pa_cons (pe_ix ix_tup (pv 5) pe_int (fun _ _ => rfl)) pa_nil)))) (pv 5) (nomark _))))) (pss_one (ps_ret pe_bl)) pss_nil) (pss_cons (ps_set (i := 9) sc_law.nd rfl (Or.inl rfl) (pe_call G_times (hr.mono (by omega)) (by rfl) m_times k_times b_times .nil pass0 (pa_cons (pv 3) (pa_cons (pv 6) (pa_cons (pv 5) pa_nil))))) (pss_cons (ps_if (PW.pt (pw_and (pt_cmpR (op_neD hr.units) (pv 5) (pe_tup (pa_cons pe_int (pa_cons pe_int pa_nil))) (nomark _)) (pw_and1 (pt_cmpR (op_neD hr.units) (pe_call G_times (hr.mono (by omega)) (by rfl) m_times k_times b_times .nil pass0 (pa_cons (pv 3) (pa_cons (pv 9) (pa_cons (pe_call G_over (hr.mono (by omega)) (by rfl) m_over k_over b_over .nil pass0 (pa_cons (pv 3) (pa_cons (pv 5) pa_nil))) pa_nil)))) (pv 6) (nomark _))))) (pss_one (ps_ret pe_bl)) pss_nil) (pss_one (ps_if (PW.pt (pw_and (pt_cmpR (op_neD hr.units) (pv 5) (pe_tup (pa_cons pe_int (pa_cons pe_int pa_nil))) (nomark _)) (pw_and (pt_cmpR (op_neD hr.units) (pv 6) (pe_tup (pa_cons pe_int (pa_cons pe_int pa_nil))) (nomark _)) (pw_and1 (pt_cmpR (op_eqD hr.units) (pe_call G_times (hr.mono (by omega)) (by rfl) m_times k_times b_times .nil pass0 (pa_cons (pv 3) (pa_cons (pv 5) (pa_cons (pv 6) pa_nil)))) (pe_tup (pa_cons pe_int (pa_cons pe_int pa_nil))) (nomark _)))))) (pss_one (ps_ret pe_bl)) pss_nil)))))))))))))) (pss_one (ps_ret pe_bl)))), ?_⟩
    refine ⟨_, rfl, a, ns, rfl, hS, fun H1 box l s1 hb1 => ?_⟩
    refine ⟨4, rfl, by decide, by decide, for_range (lo := 0) (n := 4) (fun i σ H' => Stp box l H1 H' ∧ ∃ z2 z3 z4 z5 z6 z7 z8 z9, σ = [some (.ref a), some (.ref box), z2, z3, z4, z5, z6, z7, z8, z9])
      ⟨Stp.refl hb1, none, none, none, none, none, none, none, none, rfl⟩ ?_ ?_⟩
    · rintro i σ H2 hi ⟨st2, z2, z3, z4, z5, z6, z7, z8, z9, rfl⟩
      refine ⟨_, rfl, box, l, rfl, st2.box, fun H3 f st3 hf => ?_⟩
      -- the three numbers
      refine ⟨3, rfl, by decide, by decide, fun D hD => ?_⟩
      refine lc_range (lo := 0) (n := 3) (fun i H' => Stp box l H3 H' ∧ ∃ vs qs, H' D = some (.lst vs) ∧ vs.length = i ∧ NumsV K H' vs qs ∧ ∀ q ∈ qs, IsN f q ∧ Sm 7 q)
        ⟨Stp.put (Stp.refl st3.box) st3.box hD, [], [], upd_same, rfl, .nil, fun q hq => by cases hq⟩ ?_ ?_
      · rintro j H4 hj ⟨st4, vs, qs, hD4, hl, hv, hq⟩
        refine ⟨rfl, tYes_of (iteT ?_)⟩
        refine ⟨_, rfl, _, rfl, box, l, f, rfl, st4.box, hf, fun H5 v q st5 hn hN hSm => ?_⟩
        have hD5 : H5 D = some (.lst vs) := st5.keep _ _ (st3.box.ne hD) hD4
        refine ⟨vs, hD5, small1000 (by omega), Stp.put (st4.trans st5) st3.box hD, vs ++ [v], qs ++ [q], upd_same, by simp [hl], ?_, ?_⟩
        · exact NumsV.map (fun v q h => h.put hD5) (NumsV.snoc (NumsV.map (fun v q h => h.keep st4.box st5.keep) hv) hn)
        · intro r hr
          rcases List.mem_append.mp hr with h | h
          · exact hq r h
          · rw [List.mem_singleton.mp h]
            exact ⟨hN, hSm⟩
      · rintro H5 ⟨st5, vs, qs, hD5, hl, hv, hq⟩
        obtain ⟨v1, v2, v3, rfl⟩ : ∃ v1 v2 v3, vs = [v1, v2, v3] := by
          match vs, hl with
          | [v1, v2, v3], _ => exact ⟨v1, v2, v3, rfl⟩
        obtain ⟨q1, q2, q3, rfl⟩ : ∃ v1 v2 v3, qs = [v1, v2, v3] := by
          have hl2 := hv.length
          match qs, hl2 with
          | [v1, v2, v3], _ => exact ⟨v1, v2, v3, rfl⟩
        refine ⟨D, _, rfl, SqL.of hD5, rfl, v1, _, rfl, v2, _, rfl, v3, _, rfl, rfl, ?_⟩
        obtain ⟨F⟩ := fd_ex hf
        letI := F.fld
        obtain ⟨x, rfl⟩ := F.sur q1 (hq q1 (by simp)).1
        obtain ⟨y, rfl⟩ := F.sur q2 (hq q2 (by simp)).1
        obtain ⟨z, rfl⟩ := F.sur q3 (hq q3 (by simp)).1
        have sx : Sm 7 (F.enc x) := (hq _ (by simp)).2
        have sy : Sm 7 (F.enc y) := (hq _ (by simp)).2
        have sz : Sm 7 (F.enc z) := (hq _ (by simp)).2
        obtain ⟨nx, ny, nz⟩ : NumV K H5 v1 (F.enc x) ∧ NumV K H5 v2 (F.enc y) ∧ NumV K H5 v3 (F.enc z) := by
          cases hv with
          | cons h1 t =>
            cases t with
            | cons h2 t =>
              cases t with
              | cons h3 t => exact ⟨h1, h2, h3⟩
        have fin : ∀ {Hx : Hp} {z4 z5 z6 z7 z8 z9 : Option V}, Same H5 Hx → (Stp box l H1 Hx ∧ ∃ z2' z3' z4' z5' z6' z7' z8' z9', [some (.ref a), some (.ref box), some (.int (0 + (i : Int))), some (.int f), z4, z5, z6, z7, z8, z9] = [some (.ref a), some (.ref box), z2', z3', z4', z5', z6', z7', z8', z9']) := fun S =>
          ⟨((st2.trans st3).trans st5).same S, _, _, _, _, _, _, _, _, rfl⟩
        have sxy := sm_add F hf (by decide) sx sy
        have syx := sm_add F hf (by decide) sy sx
        have syz := sm_add F hf (by decide) sy sz
        have mxy := sm_mul F hf (by decide) sx sy
        have myx := sm_mul F hf (by decide) sy sx
        have mxz := sm_mul F hf (by decide) sx sz
        have myz := sm_mul F hf (by decide) sy sz
        -- plus != plus or times != times
        refine ⟨_, rfl, _, rfl, _, rfl, two_add F hf nx ny sx sy (by decide) (by decide) fun Ha va sa na => ?_⟩
        refine ⟨_, rfl, _, rfl, _, rfl, two_add F hf (ny.same sa) (nx.same sa) sy sx (by decide) (by decide) fun Hb vb sb nb => ?_⟩
        have S := sa.trans sb
        refine ne_no (na.same sb) nb (by rw [Lean.Grind.Semiring.add_comm]) ⟨_, rfl, iteF ?_⟩
        clear na nb sa sb
        refine ⟨_, rfl, _, rfl, _, rfl, two_mul F hf (nx.same S) (ny.same S) sx sy (by decide) (by decide) fun Ha va sa na => ?_⟩
        refine ⟨_, rfl, _, rfl, _, rfl, two_mul F hf ((ny.same S).same sa) ((nx.same S).same sa) sy sx (by decide) (by decide) fun Hb vb sb nb => ?_⟩
        refine ne_no (na.same sb) nb (by rw [Lean.Grind.CommSemiring.mul_comm]) ⟨_, rfl, iteF ?_⟩
        have S := S.trans (sa.trans sb)
        clear na nb sa sb
        -- plus(plus(one, two), three) != plus(one, plus(two, three))
        refine ⟨_, rfl, _, rfl, _, rfl, _, rfl, two_add F hf (nx.same S) (ny.same S) sx sy (by decide) (by decide) fun Ha va sa na => ?_⟩
        refine ⟨_, rfl, two_add F hf na ((nz.same S).same sa) sxy sz (by decide) (by decide) fun Hb vb sb nb => ?_⟩
        have S := S.trans (sa.trans sb)
        refine ⟨_, rfl, _, rfl, _, rfl, _, rfl, _, rfl, two_add F hf (ny.same S) (nz.same S) sy sz (by decide) (by decide) fun Hc vc sc nc => ?_⟩
        have S := S.trans sc
        refine two_add F hf (nx.same S) nc sx syz (by decide) (by decide) fun Hd vd sd nd => ?_
        have S := S.trans sd
        refine ne_no ((nb.same sc).same sd) nd (by rw [Lean.Grind.Semiring.add_assoc]) ⟨_, rfl, iteF ?_⟩
        clear na nb nc nd sa sb sc sd
        refine ⟨_, rfl, _, rfl, _, rfl, _, rfl, two_mul F hf (nx.same S) (ny.same S) sx sy (by decide) (by decide) fun Ha va sa na => ?_⟩
        refine ⟨_, rfl, two_mul F hf na ((nz.same S).same sa) mxy sz (by decide) (by decide) fun Hb vb sb nb => ?_⟩
        have S := S.trans (sa.trans sb)
        refine ⟨_, rfl, _, rfl, _, rfl, _, rfl, _, rfl, two_mul F hf (ny.same S) (nz.same S) sy sz (by decide) (by decide) fun Hc vc sc nc => ?_⟩
        have S := S.trans sc
        refine two_mul F hf (nx.same S) nc sx myz (by decide) (by decide) fun Hd vd sd nd => ?_
        have S := S.trans sd
        refine ne_no ((nb.same sc).same sd) nd (by rw [Lean.Grind.Semiring.mul_assoc]) ⟨_, rfl, iteF ?_⟩
        clear na nb nc nd sa sb sc sd
        -- parts = plus(times(one, two), times(one, three))
        refine ⟨_, rfl, _, rfl, _, rfl, _, rfl, two_mul F hf (nx.same S) (ny.same S) sx sy (by decide) (by decide) fun Ha va sa na => ?_⟩
        have S := S.trans sa
        refine ⟨_, rfl, _, rfl, _, rfl, two_mul F hf (nx.same S) (nz.same S) sx sz (by decide) (by decide) fun Hb vb sb nb => ?_⟩
        have S := S.trans sb
        refine two_add F hf (na.same sb) nb mxy mxz (by decide) (by decide) fun Hp vp sp np => ?_
        have S := S.trans sp
        clear na nb sa sb sp
        -- times(one, plus(two, three)) != parts
        refine ⟨_, rfl, _, rfl, _, rfl, _, rfl, _, rfl, two_add F hf (ny.same S) (nz.same S) sy sz (by decide) (by decide) fun Ha va sa na => ?_⟩
        have S := S.trans sa
        refine two_mul F hf (nx.same S) na sx syz (by decide) (by decide) fun Hb vb sb nb => ?_
        have S := S.trans sb
        refine ⟨_, rfl, ne_no nb ((np.same sa).same sb) (by rw [Lean.Grind.Semiring.left_distrib]) ⟨_, rfl, iteF ?_⟩⟩
        clear na nb np sa sb
        -- plus(one, less(one)) != (0, 1) or plus(one, (0, 1)) != one
        refine ⟨_, rfl, _, rfl, _, rfl, _, rfl, one_neg F hf (nx.same S) sx (by decide) fun Ha va sa na => ?_⟩
        have S := S.trans sa
        refine two_add F hf (nx.same S) na sx (sm_neg F hf (by decide) sx) (by decide) (by decide) fun Hb vb sb nb => ?_
        have S := S.trans sb
        refine ⟨(by show 2 ≤ sizeLine; decide), fun t ht => ?_⟩
        have st := same_new (o := .tup [.int 0, .int 1]) ht
        have S := S.trans st
        refine ne_no (nb.same st) (NumV.new 0 1) (by rw [Lean.Grind.AddCommGroup.add_neg_cancel, F.zero]) ⟨_, rfl, iteF ?_⟩
        clear na nb sa sb st
        refine ⟨_, rfl, _, rfl, (by show 2 ≤ sizeLine; decide), fun t ht => ?_⟩
        have st := same_new (o := .tup [.int 0, .int 1]) ht
        have n0 : ∀ {Hx : L2.Hp}, NumV K (upd Hx t (.tup [.int 0, .int 1])) (.ref t) (F.enc 0) := fun {Hx} => by
          rw [F.zero]
          exact NumV.new 0 1
        have S := S.trans st
        have s0 : Sm 7 (F.enc 0) := by
          rw [F.zero]
          exact ⟨by decide, by decide⟩
        refine two_add F hf (nx.same S) n0 sx s0 (by decide) (by decide) fun Hb vb sb nb => ?_
        have S := S.trans sb
        refine ⟨_, rfl, ne_no nb (nx.same S) (by rw [Lean.Grind.Semiring.add_zero]) ⟨_, rfl, iteF ?_⟩⟩
        clear nb sb st n0
        -- times(one, (1, 1)) != one or made(one[0], one[1]) != one
        refine ⟨_, rfl, _, rfl, (by show 2 ≤ sizeLine; decide), fun t ht => ?_⟩
        have st := same_new (o := .tup [.int 1, .int 1]) ht
        have n0 : ∀ {Hx : L2.Hp}, NumV K (upd Hx t (.tup [.int 1, .int 1])) (.ref t) (F.enc 1) := fun {Hx} => by
          rw [F.one]
          exact NumV.new 1 1
        have S := S.trans st
        have s1 : Sm 7 (F.enc 1) := by
          rw [F.one]
          exact ⟨by decide, by decide⟩
        refine two_mul F hf (nx.same S) n0 sx s1 (by decide) (by decide) fun Hb vb sb nb => ?_
        have S := S.trans sb
        refine ⟨_, rfl, ne_no nb (nx.same S) (by rw [Lean.Grind.Semiring.mul_one]) ⟨_, rfl, iteF ?_⟩⟩
        clear nb sb st n0
        obtain ⟨px, rfl, hx⟩ := nx.same S
        have hfin := made_self hf (F.num x)
        refine ⟨_, rfl, _, rfl, px, _, _, _, rfl, rfl, hx, at0 _ _, _, rfl, px, _, _, _, rfl, rfl, hx, at1 _ _, f, _, _, rfl, hf, hfin.1, (fun _ => Nat.lt_trans sx.2 (Nat.pow_lt_pow_right (by decide) (by decide))), fun Hb vb sb nb => ?_⟩
        have S := S.trans sb
        refine ⟨_, rfl, ne_no nb (nx.same S) hfin.2 ⟨_, rfl, iteF ?_⟩⟩
        clear nb sb hx
        -- more = times(two, one)
        refine ⟨_, rfl, _, rfl, _, rfl, two_mul F hf (ny.same S) (nx.same S) sy sx (by decide) (by decide) fun Hm vm sm nm => ?_⟩
        have S := S.trans sm
        clear sm
        have dec : ∀ u : F.F, decide (F.enc u = (0, 1)) = true ↔ u = 0 := fun u => by
          rw [decide_eq_true_iff, ← F.zero]
          exact ⟨fun e => F.inj _ _ e, fun e => by rw [e]⟩
        -- one != (0, 1) and times(more, over(one)) != two
        refine ⟨_, rfl, (by show 2 ≤ sizeLine; decide), fun t ht => ?_⟩
        have st := same_new (o := .tup [.int 0, .int 1]) ht
        have S := S.trans st
        refine ne_val (nx.same S) (NumV.new 0 1) ⟨_, rfl, ?_⟩
        by_cases hx0 : x = 0
        · rw [(dec x).mpr hx0]
          refine iteF (iteF ?_)
          refine ⟨_, rfl, (by show 2 ≤ sizeLine; decide), fun t2 ht2 => ?_⟩
          have st2 := same_new (o := .tup [.int 0, .int 1]) ht2
          have S := S.trans st2
          refine ne_val (nx.same S) (NumV.new 0 1) ⟨_, rfl, ?_⟩
          rw [(dec x).mpr hx0]
          exact iteF (iteF (fin S))
        · have dx : decide (F.enc x = (0, 1)) = false := eq_false_of_ne_true fun e => hx0 ((dec x).mp e)
          rw [dx]
          refine iteT ?_
          refine ⟨_, rfl, _, rfl, _, rfl, _, rfl, one_inv F hf (nx.same S) sx (by decide) hx0 fun Ha va sa na => ?_⟩
          have S := S.trans sa
          refine two_mul F hf ((nm.same st).same sa) na myx (sm_inv F hf (by decide) sx hx0) (by decide) (by decide) fun Hb vb sb nb => ?_
          have S := S.trans sb
          refine ⟨_, rfl, ne_no nb (ny.same S) ?_ ⟨_, rfl, iteF ?_⟩⟩
          · rw [Lean.Grind.Semiring.mul_assoc, Lean.Grind.Field.mul_inv_cancel hx0, Lean.Grind.Semiring.mul_one]
          · refine ⟨_, rfl, (by show 2 ≤ sizeLine; decide), fun t2 ht2 => ?_⟩
            have st2 := same_new (o := .tup [.int 0, .int 1]) ht2
            have S := S.trans st2
            refine ne_val (nx.same S) (NumV.new 0 1) ⟨_, rfl, ?_⟩
            rw [dx]
            refine iteT ?_
            refine ⟨_, rfl, (by show 2 ≤ sizeLine; decide), fun t3 ht3 => ?_⟩
            have st3 := same_new (o := .tup [.int 0, .int 1]) ht3
            have S := S.trans st3
            refine ne_val (ny.same S) (NumV.new 0 1) ⟨_, rfl, ?_⟩
            by_cases hy0 : y = 0
            · rw [(dec y).mpr hy0]
              exact iteF (iteF (fin S))
            · have dy : decide (F.enc y = (0, 1)) = false := eq_false_of_ne_true fun e => hy0 ((dec y).mp e)
              rw [dy]
              refine iteT ?_
              refine ⟨_, rfl, _, rfl, _, rfl, two_mul F hf (nx.same S) (ny.same S) sx sy (by decide) (by decide) fun Hc vc sc nc => ?_⟩
              have S := S.trans sc
              refine ⟨(by show 2 ≤ sizeLine; decide), fun t4 ht4 => ?_⟩
              have st4 := same_new (o := .tup [.int 0, .int 1]) ht4
              have S := S.trans st4
              refine eq_val (nc.same st4) (NumV.new 0 1) ⟨_, rfl, ?_⟩
              have hxy : decide (F.enc (x * y) = (0, 1)) = false := eq_false_of_ne_true fun e => by
                rcases Lean.Grind.Field.of_mul_eq_zero ((dec _).mp e) with h | h
                · exact hx0 h
                · exact hy0 h
              rw [hxy]
              exact iteF (fin S)
    · rintro σ H2 ⟨st2, _⟩
      exact q H2

theorem all_mk {l : PySem.W.OpenLaw} {w : World} {K : PySem.W.Frag} {h : Heap} {mg : Str → Option Value} {fa : Addr} (X : K.In h) (G : h.Ns mainGlobals mg) (hfa : mg "law" = some (.ref fa))
    {f__law_open : Addr} {od__law_open an__law_open : Option Addr} {sl__law_open : Array (Option Value)} {oc__law_open kV__law_open dc__law_open pm__law_open cd__law_open ct__law_open : Value}
    {f__law_draw : Addr} {od__law_draw an__law_draw : Option Addr} {sl__law_draw : Array (Option Value)} {oc__law_draw kV__law_draw dc__law_draw pm__law_draw cd__law_draw ct__law_draw : Value}
    {f__law_any : Addr} {od__law_any an__law_any : Option Addr} {sl__law_any : Array (Option Value)} {oc__law_any kV__law_any dc__law_any pm__law_any cd__law_any ct__law_any : Value}
    {f__law_primes : Addr} {od__law_primes an__law_primes : Option Addr} {sl__law_primes : Array (Option Value)} {oc__law_primes kV__law_primes dc__law_primes pm__law_primes cd__law_primes ct__law_primes : Value}
    {f__law_field : Addr} {od__law_field an__law_field : Option Addr} {sl__law_field : Array (Option Value)} {oc__law_field kV__law_field dc__law_field pm__law_field cd__law_field ct__law_field : Value}
    {f_is_field : Addr} {od_is_field an_is_field : Option Addr} {sl_is_field : Array (Option Value)} {oc_is_field kV_is_field dc_is_field pm_is_field cd_is_field ct_is_field : Value}
    {f_check_field : Addr} {od_check_field an_check_field : Option Addr} {sl_check_field : Array (Option Value)} {oc_check_field kV_check_field dc_check_field pm_check_field cd_check_field ct_check_field : Value}
    {f_fits : Addr} {od_fits an_fits : Option Addr} {sl_fits : Array (Option Value)} {oc_fits kV_fits dc_fits pm_fits cd_fits ct_fits : Value}
    {f_check_numbers : Addr} {od_check_numbers an_check_numbers : Option Addr} {sl_check_numbers : Array (Option Value)} {oc_check_numbers kV_check_numbers dc_check_numbers pm_check_numbers cd_check_numbers ct_check_numbers : Value}
    {f_added : Addr} {od_added an_added : Option Addr} {sl_added : Array (Option Value)} {oc_added kV_added dc_added pm_added cd_added ct_added : Value}
    {f_plus : Addr} {od_plus an_plus : Option Addr} {sl_plus : Array (Option Value)} {oc_plus kV_plus dc_plus pm_plus cd_plus ct_plus : Value}
    {f_inverse : Addr} {od_inverse an_inverse : Option Addr} {sl_inverse : Array (Option Value)} {oc_inverse kV_inverse dc_inverse pm_inverse cd_inverse ct_inverse : Value}
    {f_lowest : Addr} {od_lowest an_lowest : Option Addr} {sl_lowest : Array (Option Value)} {oc_lowest kV_lowest dc_lowest pm_lowest cd_lowest ct_lowest : Value}
    {f_multiplied : Addr} {od_multiplied an_multiplied : Option Addr} {sl_multiplied : Array (Option Value)} {oc_multiplied kV_multiplied dc_multiplied pm_multiplied cd_multiplied ct_multiplied : Value}
    {f_times : Addr} {od_times an_times : Option Addr} {sl_times : Array (Option Value)} {oc_times kV_times dc_times pm_times cd_times ct_times : Value}
    {f__law_gcd : Addr} {od__law_gcd an__law_gcd : Option Addr} {sl__law_gcd : Array (Option Value)} {oc__law_gcd kV__law_gcd dc__law_gcd pm__law_gcd cd__law_gcd ct__law_gcd : Value}
    {f__law_num : Addr} {od__law_num an__law_num : Option Addr} {sl__law_num : Array (Option Value)} {oc__law_num kV__law_num dc__law_num pm__law_num cd__law_num ct__law_num : Value}
    {f__law_number : Addr} {od__law_number an__law_number : Option Addr} {sl__law_number : Array (Option Value)} {oc__law_number kV__law_number dc__law_number pm__law_number cd__law_number ct__law_number : Value}
    {f_is_nought : Addr} {od_is_nought an_is_nought : Option Addr} {sl_is_nought : Array (Option Value)} {oc_is_nought kV_is_nought dc_is_nought pm_is_nought cd_is_nought ct_is_nought : Value}
    {f_made : Addr} {od_made an_made : Option Addr} {sl_made : Array (Option Value)} {oc_made kV_made dc_made pm_made cd_made ct_made dV_made : Value}
    {f_negative : Addr} {od_negative an_negative : Option Addr} {sl_negative : Array (Option Value)} {oc_negative kV_negative dc_negative pm_negative cd_negative ct_negative : Value}
    {f_less : Addr} {od_less an_less : Option Addr} {sl_less : Array (Option Value)} {oc_less kV_less dc_less pm_less cd_less ct_less : Value}
    {f_flipped : Addr} {od_flipped an_flipped : Option Addr} {sl_flipped : Array (Option Value)} {oc_flipped kV_flipped dc_flipped pm_flipped cd_flipped ct_flipped : Value}
    {f_over : Addr} {od_over an_over : Option Addr} {sl_over : Array (Option Value)} {oc_over kV_over dc_over pm_over cd_over ct_over : Value}
    {f_law : Addr} {od_law an_law : Option Addr} {sl_law : Array (Option Value)} {oc_law kV_law dc_law pm_law cd_law ct_law : Value}
    {aF : Addr} {odF : Option Addr} {itsF : Array Value} {nF : Nat} {slF : Array (Option Value)}
    (a__law_open : PySem.W.nsIn K mainGlobals "_law_open" = some (some (.ref f__law_open))) (l__law_open : K.lookup f__law_open = some ⟨oc__law_open, od__law_open, .func (PySem.W.fnOf "_law_open" "_law_open" (defArgs s__law_open) (defBody s__law_open) (defScope s__law_open) .none kV__law_open dc__law_open pm__law_open an__law_open cd__law_open ct__law_open), sl__law_open⟩) (c__law_open : PySem.W.codeIn K cd__law_open "_law_open" = true) (k__law_open : PySem.W.keepIn K (.ref f__law_open) = true)
    (a__law_draw : PySem.W.nsIn K mainGlobals "_law_draw" = some (some (.ref f__law_draw))) (l__law_draw : K.lookup f__law_draw = some ⟨oc__law_draw, od__law_draw, .func (PySem.W.fnOf "_law_draw" "_law_draw" (defArgs s__law_draw) (defBody s__law_draw) (defScope s__law_draw) .none kV__law_draw dc__law_draw pm__law_draw an__law_draw cd__law_draw ct__law_draw), sl__law_draw⟩) (c__law_draw : PySem.W.codeIn K cd__law_draw "_law_draw" = true) (k__law_draw : PySem.W.keepIn K (.ref f__law_draw) = true)
    (a__law_any : PySem.W.nsIn K mainGlobals "_law_any" = some (some (.ref f__law_any))) (l__law_any : K.lookup f__law_any = some ⟨oc__law_any, od__law_any, .func (PySem.W.fnOf "_law_any" "_law_any" (defArgs s__law_any) (defBody s__law_any) (defScope s__law_any) .none kV__law_any dc__law_any pm__law_any an__law_any cd__law_any ct__law_any), sl__law_any⟩) (c__law_any : PySem.W.codeIn K cd__law_any "_law_any" = true) (k__law_any : PySem.W.keepIn K (.ref f__law_any) = true)
    (a__law_primes : PySem.W.nsIn K mainGlobals "_law_primes" = some (some (.ref f__law_primes))) (l__law_primes : K.lookup f__law_primes = some ⟨oc__law_primes, od__law_primes, .func (PySem.W.fnOf "_law_primes" "_law_primes" (defArgs s__law_primes) (defBody s__law_primes) (defScope s__law_primes) .none kV__law_primes dc__law_primes pm__law_primes an__law_primes cd__law_primes ct__law_primes), sl__law_primes⟩) (c__law_primes : PySem.W.codeIn K cd__law_primes "_law_primes" = true) (k__law_primes : PySem.W.keepIn K (.ref f__law_primes) = true)
    (a__law_field : PySem.W.nsIn K mainGlobals "_law_field" = some (some (.ref f__law_field))) (l__law_field : K.lookup f__law_field = some ⟨oc__law_field, od__law_field, .func (PySem.W.fnOf "_law_field" "_law_field" (defArgs s__law_field) (defBody s__law_field) (defScope s__law_field) .none kV__law_field dc__law_field pm__law_field an__law_field cd__law_field ct__law_field), sl__law_field⟩) (c__law_field : PySem.W.codeIn K cd__law_field "_law_field" = true) (k__law_field : PySem.W.keepIn K (.ref f__law_field) = true)
    (a_is_field : PySem.W.nsIn K mainGlobals "is_field" = some (some (.ref f_is_field))) (l_is_field : K.lookup f_is_field = some ⟨oc_is_field, od_is_field, .func (PySem.W.fnOf "is_field" "is_field" (defArgs s_is_field) (defBody s_is_field) (defScope s_is_field) .none kV_is_field dc_is_field pm_is_field an_is_field cd_is_field ct_is_field), sl_is_field⟩) (c_is_field : PySem.W.codeIn K cd_is_field "is_field" = true) (k_is_field : PySem.W.keepIn K (.ref f_is_field) = true)
    (a_check_field : PySem.W.nsIn K mainGlobals "check_field" = some (some (.ref f_check_field))) (l_check_field : K.lookup f_check_field = some ⟨oc_check_field, od_check_field, .func (PySem.W.fnOf "check_field" "check_field" (defArgs s_check_field) (defBody s_check_field) (defScope s_check_field) .none kV_check_field dc_check_field pm_check_field an_check_field cd_check_field ct_check_field), sl_check_field⟩) (c_check_field : PySem.W.codeIn K cd_check_field "check_field" = true) (k_check_field : PySem.W.keepIn K (.ref f_check_field) = true)
    (a_fits : PySem.W.nsIn K mainGlobals "fits" = some (some (.ref f_fits))) (l_fits : K.lookup f_fits = some ⟨oc_fits, od_fits, .func (PySem.W.fnOf "fits" "fits" (defArgs s_fits) (defBody s_fits) (defScope s_fits) .none kV_fits dc_fits pm_fits an_fits cd_fits ct_fits), sl_fits⟩) (c_fits : PySem.W.codeIn K cd_fits "fits" = true) (k_fits : PySem.W.keepIn K (.ref f_fits) = true)
    (a_check_numbers : PySem.W.nsIn K mainGlobals "check_numbers" = some (some (.ref f_check_numbers))) (l_check_numbers : K.lookup f_check_numbers = some ⟨oc_check_numbers, od_check_numbers, .func (PySem.W.fnOf "check_numbers" "check_numbers" (defArgs s_check_numbers) (defBody s_check_numbers) (defScope s_check_numbers) .none kV_check_numbers dc_check_numbers pm_check_numbers an_check_numbers cd_check_numbers ct_check_numbers), sl_check_numbers⟩) (c_check_numbers : PySem.W.codeIn K cd_check_numbers "check_numbers" = true) (k_check_numbers : PySem.W.keepIn K (.ref f_check_numbers) = true)
    (a_added : PySem.W.nsIn K mainGlobals "added" = some (some (.ref f_added))) (l_added : K.lookup f_added = some ⟨oc_added, od_added, .func (PySem.W.fnOf "added" "added" (defArgs s_added) (defBody s_added) (defScope s_added) .none kV_added dc_added pm_added an_added cd_added ct_added), sl_added⟩) (c_added : PySem.W.codeIn K cd_added "added" = true) (k_added : PySem.W.keepIn K (.ref f_added) = true)
    (a_plus : PySem.W.nsIn K mainGlobals "plus" = some (some (.ref f_plus))) (l_plus : K.lookup f_plus = some ⟨oc_plus, od_plus, .func (PySem.W.fnOf "plus" "plus" (defArgs s_plus) (defBody s_plus) (defScope s_plus) .none kV_plus dc_plus pm_plus an_plus cd_plus ct_plus), sl_plus⟩) (c_plus : PySem.W.codeIn K cd_plus "plus" = true) (k_plus : PySem.W.keepIn K (.ref f_plus) = true)
    (a_inverse : PySem.W.nsIn K mainGlobals "inverse" = some (some (.ref f_inverse))) (l_inverse : K.lookup f_inverse = some ⟨oc_inverse, od_inverse, .func (PySem.W.fnOf "inverse" "inverse" (defArgs s_inverse) (defBody s_inverse) (defScope s_inverse) .none kV_inverse dc_inverse pm_inverse an_inverse cd_inverse ct_inverse), sl_inverse⟩) (c_inverse : PySem.W.codeIn K cd_inverse "inverse" = true) (k_inverse : PySem.W.keepIn K (.ref f_inverse) = true)
    (a_lowest : PySem.W.nsIn K mainGlobals "lowest" = some (some (.ref f_lowest))) (l_lowest : K.lookup f_lowest = some ⟨oc_lowest, od_lowest, .func (PySem.W.fnOf "lowest" "lowest" (defArgs s_lowest) (defBody s_lowest) (defScope s_lowest) .none kV_lowest dc_lowest pm_lowest an_lowest cd_lowest ct_lowest), sl_lowest⟩) (c_lowest : PySem.W.codeIn K cd_lowest "lowest" = true) (k_lowest : PySem.W.keepIn K (.ref f_lowest) = true)
    (a_multiplied : PySem.W.nsIn K mainGlobals "multiplied" = some (some (.ref f_multiplied))) (l_multiplied : K.lookup f_multiplied = some ⟨oc_multiplied, od_multiplied, .func (PySem.W.fnOf "multiplied" "multiplied" (defArgs s_multiplied) (defBody s_multiplied) (defScope s_multiplied) .none kV_multiplied dc_multiplied pm_multiplied an_multiplied cd_multiplied ct_multiplied), sl_multiplied⟩) (c_multiplied : PySem.W.codeIn K cd_multiplied "multiplied" = true) (k_multiplied : PySem.W.keepIn K (.ref f_multiplied) = true)
    (a_times : PySem.W.nsIn K mainGlobals "times" = some (some (.ref f_times))) (l_times : K.lookup f_times = some ⟨oc_times, od_times, .func (PySem.W.fnOf "times" "times" (defArgs s_times) (defBody s_times) (defScope s_times) .none kV_times dc_times pm_times an_times cd_times ct_times), sl_times⟩) (c_times : PySem.W.codeIn K cd_times "times" = true) (k_times : PySem.W.keepIn K (.ref f_times) = true)
    (a__law_gcd : PySem.W.nsIn K mainGlobals "_law_gcd" = some (some (.ref f__law_gcd))) (l__law_gcd : K.lookup f__law_gcd = some ⟨oc__law_gcd, od__law_gcd, .func (PySem.W.fnOf "_law_gcd" "_law_gcd" (defArgs s__law_gcd) (defBody s__law_gcd) (defScope s__law_gcd) .none kV__law_gcd dc__law_gcd pm__law_gcd an__law_gcd cd__law_gcd ct__law_gcd), sl__law_gcd⟩) (c__law_gcd : PySem.W.codeIn K cd__law_gcd "_law_gcd" = true) (k__law_gcd : PySem.W.keepIn K (.ref f__law_gcd) = true)
    (a__law_num : PySem.W.nsIn K mainGlobals "_law_num" = some (some (.ref f__law_num))) (l__law_num : K.lookup f__law_num = some ⟨oc__law_num, od__law_num, .func (PySem.W.fnOf "_law_num" "_law_num" (defArgs s__law_num) (defBody s__law_num) (defScope s__law_num) .none kV__law_num dc__law_num pm__law_num an__law_num cd__law_num ct__law_num), sl__law_num⟩) (c__law_num : PySem.W.codeIn K cd__law_num "_law_num" = true) (k__law_num : PySem.W.keepIn K (.ref f__law_num) = true)
    (a__law_number : PySem.W.nsIn K mainGlobals "_law_number" = some (some (.ref f__law_number))) (l__law_number : K.lookup f__law_number = some ⟨oc__law_number, od__law_number, .func (PySem.W.fnOf "_law_number" "_law_number" (defArgs s__law_number) (defBody s__law_number) (defScope s__law_number) .none kV__law_number dc__law_number pm__law_number an__law_number cd__law_number ct__law_number), sl__law_number⟩) (c__law_number : PySem.W.codeIn K cd__law_number "_law_number" = true) (k__law_number : PySem.W.keepIn K (.ref f__law_number) = true)
    (a_is_nought : PySem.W.nsIn K mainGlobals "is_nought" = some (some (.ref f_is_nought))) (l_is_nought : K.lookup f_is_nought = some ⟨oc_is_nought, od_is_nought, .func (PySem.W.fnOf "is_nought" "is_nought" (defArgs s_is_nought) (defBody s_is_nought) (defScope s_is_nought) .none kV_is_nought dc_is_nought pm_is_nought an_is_nought cd_is_nought ct_is_nought), sl_is_nought⟩) (c_is_nought : PySem.W.codeIn K cd_is_nought "is_nought" = true) (k_is_nought : PySem.W.keepIn K (.ref f_is_nought) = true)
    (a_made : PySem.W.nsIn K mainGlobals "made" = some (some (.ref f_made))) (l_made : K.lookup f_made = some ⟨oc_made, od_made, .func (PySem.W.fnOf "made" "made" (defArgs s_made) (defBody s_made) (defScope s_made) dV_made kV_made dc_made pm_made an_made cd_made ct_made), sl_made⟩) (c_made : PySem.W.codeIn K cd_made "made" = true) (k_made : PySem.W.keepIn K (.ref f_made) = true)
    (t_made : DflV K dV_made [.int 1])
    (a_negative : PySem.W.nsIn K mainGlobals "negative" = some (some (.ref f_negative))) (l_negative : K.lookup f_negative = some ⟨oc_negative, od_negative, .func (PySem.W.fnOf "negative" "negative" (defArgs s_negative) (defBody s_negative) (defScope s_negative) .none kV_negative dc_negative pm_negative an_negative cd_negative ct_negative), sl_negative⟩) (c_negative : PySem.W.codeIn K cd_negative "negative" = true) (k_negative : PySem.W.keepIn K (.ref f_negative) = true)
    (a_less : PySem.W.nsIn K mainGlobals "less" = some (some (.ref f_less))) (l_less : K.lookup f_less = some ⟨oc_less, od_less, .func (PySem.W.fnOf "less" "less" (defArgs s_less) (defBody s_less) (defScope s_less) .none kV_less dc_less pm_less an_less cd_less ct_less), sl_less⟩) (c_less : PySem.W.codeIn K cd_less "less" = true) (k_less : PySem.W.keepIn K (.ref f_less) = true)
    (a_flipped : PySem.W.nsIn K mainGlobals "flipped" = some (some (.ref f_flipped))) (l_flipped : K.lookup f_flipped = some ⟨oc_flipped, od_flipped, .func (PySem.W.fnOf "flipped" "flipped" (defArgs s_flipped) (defBody s_flipped) (defScope s_flipped) .none kV_flipped dc_flipped pm_flipped an_flipped cd_flipped ct_flipped), sl_flipped⟩) (c_flipped : PySem.W.codeIn K cd_flipped "flipped" = true) (k_flipped : PySem.W.keepIn K (.ref f_flipped) = true)
    (a_over : PySem.W.nsIn K mainGlobals "over" = some (some (.ref f_over))) (l_over : K.lookup f_over = some ⟨oc_over, od_over, .func (PySem.W.fnOf "over" "over" (defArgs s_over) (defBody s_over) (defScope s_over) .none kV_over dc_over pm_over an_over cd_over ct_over), sl_over⟩) (c_over : PySem.W.codeIn K cd_over "over" = true) (k_over : PySem.W.keepIn K (.ref f_over) = true)
    (a_law : PySem.W.nsIn K mainGlobals "law" = some (some (.ref f_law))) (l_law : K.lookup f_law = some ⟨oc_law, od_law, .func (PySem.W.fnOf "law" "law" (defArgs s_law) (defBody s_law) (defScope s_law) .none kV_law dc_law pm_law an_law cd_law ct_law), sl_law⟩) (c_law : PySem.W.codeIn K cd_law "law" = true) (k_law : PySem.W.keepIn K (.ref f_law) = true)
    (z_len : PySem.W.nsIn K mainGlobals "len" = some none)
    (z_range : PySem.W.nsIn K mainGlobals "range" = some none)
    (z_all : PySem.W.nsIn K mainGlobals "all" = some none)
    (z_abs : PySem.W.nsIn K mainGlobals "abs" = some none)
    (z_list : PySem.W.nsIn K mainGlobals "list" = some none)
    (z_isinstance : PySem.W.nsIn K mainGlobals "isinstance" = some none)
    (z_int : PySem.W.nsIn K mainGlobals "int" = some none)
    (z_bool : PySem.W.nsIn K mainGlobals "bool" = some none)
    (z_str : PySem.W.nsIn K mainGlobals "str" = some none)
    (z_tuple : PySem.W.nsIn K mainGlobals "tuple" = some none)
    (z_gcd : PySem.W.nsIn K mainGlobals "gcd" = some (some (.builtin "math.gcd")))
    (a_FIELDS : PySem.W.nsIn K mainGlobals "FIELDS" = some (some (.ref aF))) (l_FIELDS : K.lookup aF = some ⟨.type "tuple", odF, .seq itsF nF, slF⟩) (v_FIELDS : Vals (fieldsL.map V.int) itsF.toList) :
    ∃ fd : FuncData, (∀ (s : Shared) (v : Value), BindsTo s fd ⟨[v], []⟩ [("_law_script", v)]) ∧ ∀ base : Heap, K.In base → base.Ns mainGlobals mg → FnOk l.prog w K mg base CX0 5 fa fd ["_law_script"] (spLaw K) := by
  have e := hfa.symm.trans (PySem.W.mg_of X G a_law)
  cases e
  have B : Bn mg := { gcd := PySem.W.mg_of X G z_gcd, len := PySem.W.mg_none_of X G z_len, range := PySem.W.mg_none_of X G z_range, all := PySem.W.mg_none_of X G z_all, abs := PySem.W.mg_none_of X G z_abs, list := PySem.W.mg_none_of X G z_list, isinstance := PySem.W.mg_none_of X G z_isinstance, int := PySem.W.mg_none_of X G z_int, bool := PySem.W.mg_none_of X G z_bool, str := PySem.W.mg_none_of X G z_str, tuple := PySem.W.mg_none_of X G z_tuple }
  have sF : itsF.size ≤ sizeLine := by
    have e : (fieldsL.map V.int).length = itsF.toList.length := v_FIELDS.length
    have e2 : itsF.size = itsF.toList.length := (Array.length_toList ..).symm
    rw [e2, ← e]
    decide
  have TF : FieldsAt K mg := ⟨aF, PySem.W.mg_of X G a_FIELDS, fun H => .inr ⟨_, itsF, nF, l_FIELDS, rfl, rfl, sF, v_FIELDS⟩⟩
  refine ⟨PySem.W.fnOf "law" "law" (defArgs s_law) (defBody s_law) (defScope s_law) .none kV_law dc_law pm_law an_law cd_law ct_law, fun s v => .of_eq rfl, fun base _ _ => ?_⟩
  have R__law_open : Raw K mg "_law_open" s__law_open := ⟨_, _, fun_mk (st := s__law_open) l__law_open c__law_open k__law_open, PySem.W.mg_of X G a__law_open⟩
  have D__law_open := d__law_open (P := l.prog) (w := w) (base := base) R__law_open B 
  have R__law_draw : Raw K mg "_law_draw" s__law_draw := ⟨_, _, fun_mk (st := s__law_draw) l__law_draw c__law_draw k__law_draw, PySem.W.mg_of X G a__law_draw⟩
  have D__law_draw := d__law_draw (P := l.prog) (w := w) (base := base) R__law_draw B 
  have R__law_any : Raw K mg "_law_any" s__law_any := ⟨_, _, fun_mk (st := s__law_any) l__law_any c__law_any k__law_any, PySem.W.mg_of X G a__law_any⟩
  have D__law_any := d__law_any (P := l.prog) (w := w) (base := base) R__law_any B D__law_draw
  have R__law_primes : Raw K mg "_law_primes" s__law_primes := ⟨_, _, fun_mk (st := s__law_primes) l__law_primes c__law_primes k__law_primes, PySem.W.mg_of X G a__law_primes⟩
  have D__law_primes := d__law_primes (P := l.prog) (w := w) (base := base) R__law_primes  
  have R__law_field : Raw K mg "_law_field" s__law_field := ⟨_, _, fun_mk (st := s__law_field) l__law_field c__law_field k__law_field, PySem.W.mg_of X G a__law_field⟩
  have D__law_field := d__law_field (P := l.prog) (w := w) (base := base) R__law_field  D__law_draw D__law_any D__law_primes
  have R_is_field : Raw K mg "is_field" s_is_field := ⟨_, _, fun_mk (st := s_is_field) l_is_field c_is_field k_is_field, PySem.W.mg_of X G a_is_field⟩
  have D_is_field := d_is_field (P := l.prog) (w := w) (base := base) R_is_field TF 
  have R_check_field : Raw K mg "check_field" s_check_field := ⟨_, _, fun_mk (st := s_check_field) l_check_field c_check_field k_check_field, PySem.W.mg_of X G a_check_field⟩
  have D_check_field := d_check_field (P := l.prog) (w := w) (base := base) R_check_field  D_is_field
  have R_fits : Raw K mg "fits" s_fits := ⟨_, _, fun_mk (st := s_fits) l_fits c_fits k_fits, PySem.W.mg_of X G a_fits⟩
  have D_fits := d_fits (P := l.prog) (w := w) (base := base) R_fits B 
  have R_check_numbers : Raw K mg "check_numbers" s_check_numbers := ⟨_, _, fun_mk (st := s_check_numbers) l_check_numbers c_check_numbers k_check_numbers, PySem.W.mg_of X G a_check_numbers⟩
  have D_check_numbers := d_check_numbers (P := l.prog) (w := w) (base := base) R_check_numbers B D_fits
  have R_added : Raw K mg "added" s_added := ⟨_, _, fun_mk (st := s_added) l_added c_added k_added, PySem.W.mg_of X G a_added⟩
  have D_added := d_added (P := l.prog) (w := w) (base := base) R_added B 
  have R_plus : Raw K mg "plus" s_plus := ⟨_, _, fun_mk (st := s_plus) l_plus c_plus k_plus, PySem.W.mg_of X G a_plus⟩
  have D_plus := d_plus (P := l.prog) (w := w) (base := base) R_plus  D_check_field D_check_numbers D_added
  have R_inverse : Raw K mg "inverse" s_inverse := ⟨_, _, fun_mk (st := s_inverse) l_inverse c_inverse k_inverse, PySem.W.mg_of X G a_inverse⟩
  have D_inverse := d_inverse (P := l.prog) (w := w) (base := base) R_inverse B 
  have R_lowest : Raw K mg "lowest" s_lowest := ⟨_, _, fun_mk (st := s_lowest) l_lowest c_lowest k_lowest, PySem.W.mg_of X G a_lowest⟩
  have D_lowest := d_lowest (P := l.prog) (w := w) (base := base) R_lowest B D_inverse
  have R_multiplied : Raw K mg "multiplied" s_multiplied := ⟨_, _, fun_mk (st := s_multiplied) l_multiplied c_multiplied k_multiplied, PySem.W.mg_of X G a_multiplied⟩
  have D_multiplied := d_multiplied (P := l.prog) (w := w) (base := base) R_multiplied  D_lowest
  have R_times : Raw K mg "times" s_times := ⟨_, _, fun_mk (st := s_times) l_times c_times k_times, PySem.W.mg_of X G a_times⟩
  have D_times := d_times (P := l.prog) (w := w) (base := base) R_times  D_check_field D_check_numbers D_multiplied
  have R__law_gcd : Raw K mg "_law_gcd" s__law_gcd := ⟨_, _, fun_mk (st := s__law_gcd) l__law_gcd c__law_gcd k__law_gcd, PySem.W.mg_of X G a__law_gcd⟩
  have D__law_gcd := d__law_gcd (P := l.prog) (w := w) (base := base) R__law_gcd B 
  have R__law_num : Raw K mg "_law_num" s__law_num := ⟨_, _, fun_mk (st := s__law_num) l__law_num c__law_num k__law_num, PySem.W.mg_of X G a__law_num⟩
  have D__law_num := d__law_num (P := l.prog) (w := w) (base := base) R__law_num B D__law_gcd
  have R__law_number : Raw K mg "_law_number" s__law_number := ⟨_, _, fun_mk (st := s__law_number) l__law_number c__law_number k__law_number, PySem.W.mg_of X G a__law_number⟩
  have D__law_number := d__law_number (P := l.prog) (w := w) (base := base) R__law_number  D__law_draw D__law_num
  have R_is_nought : Raw K mg "is_nought" s_is_nought := ⟨_, _, fun_mk (st := s_is_nought) l_is_nought c_is_nought k_is_nought, PySem.W.mg_of X G a_is_nought⟩
  have D_is_nought := d_is_nought (P := l.prog) (w := w) (base := base) R_is_nought  
  have R_made : RawD K mg "made" s_made [.int 1] := ⟨_, _, ⟨⟨_, _, _, _, _, _, _, _, _, _, rfl, l_made, c_made, t_made, .inl rfl⟩, k_made⟩, PySem.W.mg_of X G a_made⟩
  have D_made := d_made (P := l.prog) (w := w) (base := base) R_made  D_check_field D_is_nought D_lowest
  have R_negative : Raw K mg "negative" s_negative := ⟨_, _, fun_mk (st := s_negative) l_negative c_negative k_negative, PySem.W.mg_of X G a_negative⟩
  have D_negative := d_negative (P := l.prog) (w := w) (base := base) R_negative  
  have R_less : Raw K mg "less" s_less := ⟨_, _, fun_mk (st := s_less) l_less c_less k_less, PySem.W.mg_of X G a_less⟩
  have D_less := d_less (P := l.prog) (w := w) (base := base) R_less  D_check_field D_check_numbers D_negative
  have R_flipped : Raw K mg "flipped" s_flipped := ⟨_, _, fun_mk (st := s_flipped) l_flipped c_flipped k_flipped, PySem.W.mg_of X G a_flipped⟩
  have D_flipped := d_flipped (P := l.prog) (w := w) (base := base) R_flipped  D_lowest
  have R_over : Raw K mg "over" s_over := ⟨_, _, fun_mk (st := s_over) l_over c_over k_over, PySem.W.mg_of X G a_over⟩
  have D_over := d_over (P := l.prog) (w := w) (base := base) R_over  D_check_field D_check_numbers D_is_nought D_flipped
  exact law_ok (fun_mk (st := s_law) l_law c_law k_law) B D__law_open D__law_field D_plus D_times D__law_number D_made D_less D_over
end St
open PySem PySem.W PyProof.Rows
set_option maxRecDepth 100000 in
set_option maxHeartbeats 0 in
theorem PySem.Challenge.cw_stalkweb_k03_whole_numbers_make_a_field_holds : PySem.Challenge.rw_stalkweb_k03_whole_numbers_make_a_field.Holds := by
  w_on; o_law; k_head; (case hw => w_witness2)
  k_fill
  refine L2.walk_of (l := PySem.Challenge.rw_stalkweb_k03_whole_numbers_make_a_field) (n := 63) (k := 5) (x := "_law_script") (CX := fun _ => L2.CX0) (sp := fun w => St.spLaw _) rfl (by decide) rfl ⟨rfl, by decide, by decide⟩ (fun w h Y => PySem.W.kIn_of Y) ?F (fun _ _ a ns hl _ hS => ⟨a, ns, rfl, hS, hl, fun _ => rfl⟩) (fun _ _ _ _ _ h => h)
  case F =>
    intro w mg fa h KX G hmg
    refine' St.all_mk KX G hmg ?a__law_open ?l__law_open ?c__law_open ?k__law_open ?a__law_draw ?l__law_draw ?c__law_draw ?k__law_draw ?a__law_any ?l__law_any ?c__law_any ?k__law_any ?a__law_primes ?l__law_primes ?c__law_primes ?k__law_primes ?a__law_field ?l__law_field ?c__law_field ?k__law_field ?a_is_field ?l_is_field ?c_is_field ?k_is_field ?a_check_field ?l_check_field ?c_check_field ?k_check_field ?a_fits ?l_fits ?c_fits ?k_fits ?a_check_numbers ?l_check_numbers ?c_check_numbers ?k_check_numbers ?a_added ?l_added ?c_added ?k_added ?a_plus ?l_plus ?c_plus ?k_plus ?a_inverse ?l_inverse ?c_inverse ?k_inverse ?a_lowest ?l_lowest ?c_lowest ?k_lowest ?a_multiplied ?l_multiplied ?c_multiplied ?k_multiplied ?a_times ?l_times ?c_times ?k_times ?a__law_gcd ?l__law_gcd ?c__law_gcd ?k__law_gcd ?a__law_num ?l__law_num ?c__law_num ?k__law_num ?a__law_number ?l__law_number ?c__law_number ?k__law_number ?a_is_nought ?l_is_nought ?c_is_nought ?k_is_nought ?a_made ?l_made ?c_made ?k_made ?t_made ?a_negative ?l_negative ?c_negative ?k_negative ?a_less ?l_less ?c_less ?k_less ?a_flipped ?l_flipped ?c_flipped ?k_flipped ?a_over ?l_over ?c_over ?k_over ?a_law ?l_law ?c_law ?k_law ?z_len ?z_range ?z_all ?z_abs ?z_list ?z_isinstance ?z_int ?z_bool ?z_str ?z_tuple ?z_gcd ?a_FIELDS ?l_FIELDS ?v_FIELDS
    (case a__law_open => k_is)
    (case l__law_open => k_is)
    (case c__law_open => k_is)
    (case k__law_open => k_is)
    (case a__law_draw => k_is)
    (case l__law_draw => k_is)
    (case c__law_draw => k_is)
    (case k__law_draw => k_is)
    (case a__law_any => k_is)
    (case l__law_any => k_is)
    (case c__law_any => k_is)
    (case k__law_any => k_is)
    (case a__law_primes => k_is)
    (case l__law_primes => k_is)
    (case c__law_primes => k_is)
    (case k__law_primes => k_is)
    (case a__law_field => k_is)
    (case l__law_field => k_is)
    (case c__law_field => k_is)
    (case k__law_field => k_is)
    (case a_is_field => k_is)
    (case l_is_field => k_is)
    (case c_is_field => k_is)
    (case k_is_field => k_is)
    (case a_check_field => k_is)
    (case l_check_field => k_is)
    (case c_check_field => k_is)
    (case k_check_field => k_is)
    (case a_fits => k_is)
    (case l_fits => k_is)
    (case c_fits => k_is)
    (case k_fits => k_is)
    (case a_check_numbers => k_is)
    (case l_check_numbers => k_is)
    (case c_check_numbers => k_is)
    (case k_check_numbers => k_is)
    (case a_added => k_is)
    (case l_added => k_is)
    (case c_added => k_is)
    (case k_added => k_is)
    (case a_plus => k_is)
    (case l_plus => k_is)
    (case c_plus => k_is)
    (case k_plus => k_is)
    (case a_inverse => k_is)
    (case l_inverse => k_is)
    (case c_inverse => k_is)
    (case k_inverse => k_is)
    (case a_lowest => k_is)
    (case l_lowest => k_is)
    (case c_lowest => k_is)
    (case k_lowest => k_is)
    (case a_multiplied => k_is)
    (case l_multiplied => k_is)
    (case c_multiplied => k_is)
    (case k_multiplied => k_is)
    (case a_times => k_is)
    (case l_times => k_is)
    (case c_times => k_is)
    (case k_times => k_is)
    (case a__law_gcd => k_is)
    (case l__law_gcd => k_is)
    (case c__law_gcd => k_is)
    (case k__law_gcd => k_is)
    (case a__law_num => k_is)
    (case l__law_num => k_is)
    (case c__law_num => k_is)
    (case k__law_num => k_is)
    (case a__law_number => k_is)
    (case l__law_number => k_is)
    (case c__law_number => k_is)
    (case k__law_number => k_is)
    (case a_is_nought => k_is)
    (case l_is_nought => k_is)
    (case c_is_nought => k_is)
    (case k_is_nought => k_is)
    (case a_made => k_is)
    (case l_made => k_is)
    (case c_made => k_is)
    (case k_made => k_is)
    (case a_negative => k_is)
    (case l_negative => k_is)
    (case c_negative => k_is)
    (case k_negative => k_is)
    (case a_less => k_is)
    (case l_less => k_is)
    (case c_less => k_is)
    (case k_less => k_is)
    (case a_flipped => k_is)
    (case l_flipped => k_is)
    (case c_flipped => k_is)
    (case k_flipped => k_is)
    (case a_over => k_is)
    (case l_over => k_is)
    (case c_over => k_is)
    (case k_over => k_is)
    (case a_law => k_is)
    (case l_law => k_is)
    (case c_law => k_is)
    (case k_law => k_is)
    (case z_len => k_is)
    (case z_range => k_is)
    (case z_all => k_is)
    (case z_abs => k_is)
    (case z_list => k_is)
    (case z_isinstance => k_is)
    (case z_int => k_is)
    (case z_bool => k_is)
    (case z_str => k_is)
    (case z_tuple => k_is)
    (case z_gcd => k_is)
    (case a_FIELDS => k_is)
    (case l_FIELDS => k_is)
    (case t_made => exact .inr ⟨by simp, _, _, _, _, rfl, (by k_is), rfl, .cons ⟨_, rfl⟩ .nil⟩)
    (case v_FIELDS => repeat (first | exact .nil | refine .cons ⟨_, rfl⟩ ?_))
