import PyProof.Rows.All
import Wide.All
import OpenK.AllK
import Wide.FinOn
import HandS.ForMost
import HandS.ForExc
import HandS.Gcd
import HandS.Wide
import HandS.NoneIn
import HandS.Defaults
import HandS.Conv
import HandS.Style
import HandS.Zip
import HandS.Walk
import KE.GoesNew
import HandS.IsInst
import HandS.ExcInit
import HandS.ExcIs
import HandS.ExcField
import HandS.TryMany
import HandS.Lambda
import HandS.EndTab
import HandS.EndOwn
import KE.KTypeName
import PySem.Challenge.RW_stalkweb_k04_tables_that_lead
import PyProof.Rows.SortShellAny
import HandS.SortRule
import HandS.SetFor
import HandS.Strs
import KE.GoesEnum
import HandS.Iter
import HandS.TupMul
import HandS.TupAny
import KE.KTupSum
import KE.KExcInit
import HandS.Style
set_option Elab.async false
set_option linter.all false
set_option maxRecDepth 100000
set_option maxHeartbeats 4000000
/-! Numbers of a field, in plain Lean: pairs as the program reckons them, and the field that they encode. -/
namespace St
open Lean.Grind
/-! ### the program's reckoning -/
abbrev Pr := Int × Int
def primesN : List Nat := [2, 3, 5, 7, 11, 13, 17, 19, 23, 29, 31, 37, 41, 43, 47, 53, 59, 61, 67, 71, 73, 79, 83, 89, 97]
def IsF (f : Int) : Prop := f = 0 ∨ ∃ p ∈ primesN, f = (p : Int)
def IsN (f : Int) (q : Pr) : Prop := (f = 0 ∧ 1 ≤ q.2 ∧ Int.gcd q.1 q.2 = 1) ∨ (f ≠ 0 ∧ q.2 = 1 ∧ 0 ≤ q.1 ∧ q.1 < f)
/-- the n-fold product, by steps -/
def powm (p b : Int) : Nat → Int
  | 0 => 1
  | n + 1 => powm p b n * b % p
def powN (p b : Nat) : Nat → Nat
  | 0 => 1
  | n + 1 => powN p b n * b % p
theorem powm_cast (p b : Nat) : ∀ n, powm p b n = (powN p b n : Int)
  | 0 => rfl
  | n + 1 => by
    show powm p b n * b % p = ((powN p b n * b % p : Nat) : Int)
    rw [powm_cast p b n]
    simp
def gOf (t b : Int) : Int := if b < 0 then -((Nat.gcd t.natAbs b.natAbs : Nat) : Int) else ((Nat.gcd t.natAbs b.natAbs : Nat) : Int)
def low (f t b : Int) : Pr := if f ≠ 0 then (t % f * powm f (b % f) (f - 2).toNat % f, 1) else (t.fdiv (gOf t b), b.fdiv (gOf t b))
def addN (f : Int) (p q : Pr) : Pr := if f ≠ 0 then ((p.1 + q.1) % f, 1) else low f (p.1 * q.2 + q.1 * p.2) (p.2 * q.2)
def mulN (f : Int) (p q : Pr) : Pr := if f ≠ 0 then (p.1 * q.1 % f, 1) else low f (p.1 * q.1) (p.2 * q.2)
def negN (f : Int) (p : Pr) : Pr := if f ≠ 0 then (-p.1 % f, 1) else (-p.1, p.2)
def invN (f : Int) (p : Pr) : Pr := low f p.2 p.1
/-! ### a field made of a commutative ring and inverses -/
def mkZpow {F : Type} [CommRing F] (inv : F → F) (a : F) : Int → F
  | .ofNat n => a ^ n
  | .negSucc n => inv (a ^ (n + 1))
theorem inv_uniq {F : Type} [CommRing F] {a b c : F} (h1 : a * b = 1) (h2 : a * c = 1) : b = c := by grind
section
variable {F : Type} [R : CommRing F] (inv : F → F)
theorem inv_one' (h01 : (0 : F) ≠ 1) (hm : ∀ a : F, a ≠ 0 → a * inv a = 1) : inv 1 = 1 := by
  have h := hm 1 (fun e => h01 e.symm)
  rw [Semiring.one_mul] at h
  exact h
theorem inv_inv' (h01 : (0 : F) ≠ 1) (h0 : inv 0 = 0) (hm : ∀ a : F, a ≠ 0 → a * inv a = 1) (a : F) : inv (inv a) = a := by
  by_cases ha : a = 0
  · rw [ha, h0, h0]
  · have h1 := hm a ha
    have hne : inv a ≠ 0 := fun e => by
      rw [e] at h1
      grind
    have h2 := hm (inv a) hne
    exact inv_uniq (a := inv a) h2 (by grind)
theorem zpow_neg' (h01 : (0 : F) ≠ 1) (h0 : inv 0 = 0) (hm : ∀ a : F, a ≠ 0 → a * inv a = 1) (a : F) (n : Int) : mkZpow inv a (-n) = inv (mkZpow inv a n) := by
  match n with
  | .ofNat 0 =>
    have e : a ^ 0 = 1 := Semiring.pow_zero a
    show a ^ 0 = inv (a ^ 0)
    rw [e, inv_one' inv h01 hm]
  | .ofNat (k + 1) => rfl
  | .negSucc k =>
    show a ^ (k + 1) = inv (inv (a ^ (k + 1)))
    rw [inv_inv' inv h01 h0 hm]
end
@[reducible] def mkField {F : Type} (R : CommRing F) (inv : F → F) (h01 : (0 : F) ≠ 1) (h0 : inv 0 = 0) (hm : ∀ a : F, a ≠ 0 → a * inv a = 1) : Field F :=
  letI z : HPow F Int F := ⟨fun a n => mkZpow inv a n⟩
  { R with
    inv := inv
    div := fun a b => a * inv b
    zpow := z
    div_eq_mul_inv := fun _ _ => rfl
    zero_ne_one := h01
    inv_zero := h0
    mul_inv_cancel := fun {a} ha => hm a ha
    zpow_zero := fun a => Semiring.pow_zero a
    zpow_succ := fun a n => Semiring.pow_succ a n
    zpow_neg := fun a n => zpow_neg' inv h01 h0 hm a n }
/-! ### the field of a number f -/
structure Fd (f : Int) where
  F : Type
  fld : Field F
  dec : DecidableEq F
  enc : F → Pr
  inj : ∀ x y, enc x = enc y → x = y
  num : ∀ x, IsN f (enc x)
  sur : ∀ p, IsN f p → ∃ x, enc x = p
  zero : enc 0 = (0, 1)
  one : enc 1 = (1, 1)
  add : ∀ x y, enc (x + y) = addN f (enc x) (enc y)
  mul : ∀ x y, enc (x * y) = mulN f (enc x) (enc y)
  neg : ∀ x, enc (-x) = negN f (enc x)
  inv : ∀ x, x ≠ 0 → enc (x⁻¹) = invN f (enc x)
  /-- whole numbers -/
  ofI : Int → F
  low : ∀ t b, ofI b ≠ 0 → enc (ofI t * (ofI b)⁻¹) = low f t b
  ofI0 : ∀ b, ofI b = 0 ↔ (if f = 0 then b = 0 else b % f = 0)
  ofI_add : ∀ s t, ofI (s + t) = ofI s + ofI t
  ofI_mul : ∀ s t, ofI (s * t) = ofI s * ofI t
  ofI_one : ofI 1 = 1
  encI : ∀ z, enc (ofI z) = if f = 0 then (z, 1) else (z % f, 1)
/-! ### fractions -/
theorem low0 (t b : Int) (hb : b ≠ 0) : low 0 t b = ((Rat.divInt t b).num, ((Rat.divInt t b).den : Int)) := by
  have hg : (Nat.gcd t.natAbs b.natAbs : Nat) ≠ 0 := by
    intro h
    rw [Nat.gcd_eq_zero_iff] at h
    omega
  have h1 : ((Nat.gcd t.natAbs b.natAbs : Nat) : Int) ∣ t := by
    rw [Int.ofNat_dvd_left]
    exact Nat.gcd_dvd_left _ _
  have h2 : ((Nat.gcd t.natAbs b.natAbs : Nat) : Int) ∣ b := by
    rw [Int.ofNat_dvd_left]
    exact Nat.gcd_dvd_right _ _
  have e : b.gcd t = Nat.gcd t.natAbs b.natAbs := by rw [Int.gcd_comm]; rfl
  rw [Rat.num_divInt, Rat.den_divInt, if_neg hb, e]
  show (if (0 : Int) ≠ 0 then _ else (t.fdiv (gOf t b), b.fdiv (gOf t b))) = _
  rw [if_neg (by simp)]
  unfold gOf
  generalize Nat.gcd t.natAbs b.natAbs = g at *
  obtain ⟨u, hu⟩ := h1
  obtain ⟨v, hv⟩ := h2
  have hg' : (g : Int) ≠ 0 := by omega
  have hgp : (0 : Int) < g := by omega
  subst hu
  subst hv
  have d1 : ∀ z : Int, (g * z).fdiv g = z := fun z => by rw [Int.mul_comm]; exact Int.mul_fdiv_cancel _ hg'
  have d2 : ∀ z : Int, (g * z).fdiv (-g) = -z := fun z => by
    have e : (g : Int) * z = -z * -g := by rw [Int.neg_mul_neg, Int.mul_comm]
    rw [e]
    exact Int.mul_fdiv_cancel _ (by omega)
  have hv0 : v ≠ 0 := fun h => by simp [h] at hb
  have nb : ((g * v : Int).natAbs / g : Nat) = v.natAbs := by
    rw [Int.natAbs_mul, Int.natAbs_natCast]
    exact Nat.mul_div_cancel_left _ (by omega)
  by_cases h : (g : Int) * v < 0
  · have hvn : v < 0 := by
      rcases Int.lt_or_gt_of_ne hv0 with h' | h'
      · exact h'
      · have := Int.mul_pos hgp h'
        omega
    rw [if_pos h, d2, d2, Int.sign_eq_neg_one_of_neg h, nb]
    have : -1 * (↑g * u) / (g : Int) = -u := by
      rw [show -1 * ((g : Int) * u) = g * (-u) by grind]
      exact Int.mul_ediv_cancel_left _ hg'
    rw [this]
    congr 1
    omega
  · have hvp : 0 < v := by
      rcases Int.lt_or_gt_of_ne hv0 with h' | h'
      · have := Int.mul_neg_of_pos_of_neg hgp h'
        omega
      · exact h'
    have hp : 0 < (g : Int) * v := Int.mul_pos hgp hvp
    rw [if_neg h, d1, d1, Int.sign_eq_one_of_pos hp, nb]
    have : 1 * (↑g * u) / (g : Int) = u := by
      rw [Int.one_mul]
      exact Int.mul_ediv_cancel_left _ hg'
    rw [this]
    congr 1
    omega
def encQ (r : Rat) : Pr := (r.num, (r.den : Int))
theorem encQ_low {t b : Int} (hb : b ≠ 0) : encQ (Rat.divInt t b) = low 0 t b := (low0 t b hb).symm
theorem encQ_self (r : Rat) : r = Rat.divInt r.num r.den := (Rat.num_divInt_den r).symm
theorem den_ne (r : Rat) : ((r.den : Nat) : Int) ≠ 0 := by
  have := r.den_nz
  omega
def fdQ : Fd 0 where
  F := Rat
  fld := inferInstance
  dec := inferInstance
  enc := encQ
  inj := fun x y h => by
    have h1 : x.num = y.num := congrArg Prod.fst h
    have h2 : (x.den : Int) = y.den := congrArg Prod.snd h
    exact Rat.ext h1 (by omega)
  num := fun x => Or.inl ⟨rfl, by
    have := x.den_nz
    show (1 : Int) ≤ (x.den : Int)
    omega, x.reduced⟩
  sur := fun p h => by
    rcases h with ⟨_, h1, h2⟩ | ⟨h, _⟩
    · have e : ((p.2.toNat : Nat) : Int) = p.2 := Int.toNat_of_nonneg (by omega)
      refine ⟨⟨p.1, p.2.toNat, by omega, ?_⟩, ?_⟩
      · have : p.2.natAbs = p.2.toNat := by omega
        rw [← this]
        exact h2
      · show ((p.1, ((p.2.toNat : Nat) : Int)) : Pr) = p
        rw [e]
    · exact absurd rfl h
  zero := rfl
  one := rfl
  add := fun x y => by
    have e : x + y = Rat.divInt (x.num * y.den + y.num * x.den) (x.den * y.den) := by
      conv => lhs; rw [encQ_self x, encQ_self y]
      exact Rat.divInt_add_divInt _ _ (den_ne x) (den_ne y)
    rw [e, encQ_low (Int.mul_ne_zero (den_ne x) (den_ne y))]
    rfl
  mul := fun x y => by
    have e : x * y = Rat.divInt (x.num * y.num) (x.den * y.den) := by
      conv => lhs; rw [encQ_self x, encQ_self y]
      exact Rat.divInt_mul_divInt _ _
    rw [e, encQ_low (Int.mul_ne_zero (den_ne x) (den_ne y))]
    rfl
  neg := fun x => rfl
  inv := fun x hx => by
    have e : x⁻¹ = Rat.divInt x.den x.num := by
      conv => lhs; rw [encQ_self x]
      exact Rat.inv_divInt _ _
    have hn : x.num ≠ 0 := fun h => hx (Rat.num_eq_zero.mp h)
    rw [e, encQ_low hn]
    rfl
  ofI := fun t => (t : Rat)
  low := fun t b hb => by
    have hb' : b ≠ 0 := fun h => hb (by rw [h]; rfl)
    rw [← encQ_low hb', Rat.divInt_eq_div, Rat.div_def]
  ofI0 := fun b => by simp
  ofI_add := fun s t => Rat.intCast_add s t
  ofI_mul := fun s t => Rat.intCast_mul s t
  ofI_one := rfl
  encI := fun z => by
    rw [if_pos rfl]
    rfl
/-! ### sums of fractions, by what both bottoms share -/
theorem fdiv_nat (a b : Nat) : ((a : Int).fdiv (b : Int)) = ((a / b : Nat) : Int) := by
  rw [Int.fdiv_eq_ediv_of_nonneg _ (by omega)]; rfl
def shB (p q : Pr) : Int := ((Nat.gcd p.2.natAbs q.2.natAbs : Nat) : Int)
def paB (p q : Pr) : Int := p.2.fdiv (shB p q)
def toB (p q : Pr) : Int := p.1 * q.2.fdiv (shB p q) + q.1 * paB p q
def coB (p q : Pr) : Int := ((Nat.gcd (toB p q).natAbs (shB p q).natAbs : Nat) : Int)
theorem add_lean {p q : Pr} (hp : IsN 0 p) (hq : IsN 0 q) : addN 0 p q = ((toB p q).fdiv (coB p q), paB p q * q.2.fdiv (coB p q)) := by
  obtain ⟨x, rfl⟩ : ∃ x : Rat, encQ x = p := fdQ.sur p hp
  obtain ⟨y, rfl⟩ : ∃ x : Rat, encQ x = q := fdQ.sur q hq
  have x0 := x.den_nz
  have y0 := y.den_nz
  change addN 0 (encQ x) (encQ y) = ((toB (encQ x) (encQ y)).fdiv (coB (encQ x) (encQ y)), paB (encQ x) (encQ y) * ((y.den : Int)).fdiv (coB (encQ x) (encQ y)))
  have es : shB (encQ x) (encQ y) = ((Nat.gcd x.den y.den : Nat) : Int) := by
    unfold shB encQ
    simp
  have hg0 : 0 < Nat.gcd x.den y.den := Nat.gcd_pos_of_pos_left _ (by omega)
  have hx := Nat.gcd_dvd_left x.den y.den
  have hy := Nat.gcd_dvd_right x.den y.den
  have ep : paB (encQ x) (encQ y) = ((x.den / Nat.gcd x.den y.den : Nat) : Int) := by
    unfold paB
    rw [es]
    exact fdiv_nat _ _
  have et : toB (encQ x) (encQ y) = x.num * ((y.den / Nat.gcd x.den y.den : Nat) : Int) + y.num * ((x.den / Nat.gcd x.den y.den : Nat) : Int) := by
    unfold toB
    rw [es, ep]
    show x.num * ((y.den : Int)).fdiv _ + _ = _
    rw [fdiv_nat]
    rfl
  have aux := @Rat.add.aux x y _ _ _ rfl rfl rfl
  have ec : coB (encQ x) (encQ y) = ((Nat.gcd (x.num * ((y.den / Nat.gcd x.den y.den : Nat) : Int) + y.num * ((x.den / Nat.gcd x.den y.den : Nat) : Int)).natAbs (Nat.gcd x.den y.den) : Nat) : Int) := by
    unfold coB
    rw [et, es]
    rfl
  simp only at aux
  generalize ht : x.num * ((y.den / Nat.gcd x.den y.den : Nat) : Int) + y.num * ((x.den / Nat.gcd x.den y.den : Nat) : Int) = t at *
  have hB : ((x.den / Nat.gcd x.den y.den * y.den : Nat) : Int) ≠ 0 := by
    have : 0 < x.den / Nat.gcd x.den y.den := Nat.div_pos (Nat.le_of_dvd (by omega) hx) hg0
    have := Nat.mul_pos this (by omega : 0 < y.den)
    omega
  have e1 : addN 0 (encQ x) (encQ y) = low 0 t ((x.den / Nat.gcd x.den y.den * y.den : Nat) : Int) := by
    unfold addN
    rw [if_neg (by simp)]
    have hB0 := Int.mul_ne_zero (den_ne x) (den_ne y)
    change ((encQ x).2 * (encQ y).2 : Int) ≠ 0 at hB0
    have k1 : (encQ x).1 * (encQ y).2 + (encQ y).1 * (encQ x).2 = (Nat.gcd x.den y.den : Int) * t := by
      rw [← ht]
      show x.num * (y.den : Int) + y.num * (x.den : Int) = _
      have a1 : (x.den : Int) = (Nat.gcd x.den y.den : Int) * ((x.den / Nat.gcd x.den y.den : Nat) : Int) := by
        have := Nat.mul_div_cancel' hx
        exact_mod_cast this.symm
      have a2 : (y.den : Int) = (Nat.gcd x.den y.den : Int) * ((y.den / Nat.gcd x.den y.den : Nat) : Int) := by
        have := Nat.mul_div_cancel' hy
        exact_mod_cast this.symm
      generalize ((x.den / Nat.gcd x.den y.den : Nat) : Int) = u at *
      generalize ((y.den / Nat.gcd x.den y.den : Nat) : Int) = v at *
      generalize (Nat.gcd x.den y.den : Int) = g at *
      rw [a1, a2]
      grind
    have k2 : (encQ x).2 * (encQ y).2 = (Nat.gcd x.den y.den : Int) * ((x.den / Nat.gcd x.den y.den * y.den : Nat) : Int) := by
      show (x.den : Int) * (y.den : Int) = _
      have := Nat.mul_div_cancel' hx
      have : x.den * y.den = Nat.gcd x.den y.den * (x.den / Nat.gcd x.den y.den * y.den) := by
        rw [← Nat.mul_assoc, this]
      exact_mod_cast this
    rw [low0 _ _ hB0, low0 _ _ hB, k1, k2, Rat.divInt_mul_left (by omega)]
  rw [e1]
  unfold low gOf
  rw [if_neg (by simp), if_neg (by omega)]
  show (t.fdiv ((Nat.gcd t.natAbs (x.den / Nat.gcd x.den y.den * y.den) : Nat) : Int), _) = _
  have e2 : Nat.gcd t.natAbs (x.den / Nat.gcd x.den y.den * y.den) = Nat.gcd t.natAbs (Nat.gcd x.den y.den) := aux.symm
  rw [ec, ep, et]
  have e3 : (((x.den / Nat.gcd x.den y.den * y.den : Nat)) : Int).natAbs = x.den / Nat.gcd x.den y.den * y.den := Int.natAbs_natCast _
  rw [e3, e2, fdiv_nat, fdiv_nat]
  congr 1
  have d : Nat.gcd t.natAbs (Nat.gcd x.den y.den) ∣ y.den := Nat.dvd_trans (Nat.gcd_dvd_right _ _) hy
  have := Nat.mul_div_assoc (x.den / Nat.gcd x.den y.den) d
  exact_mod_cast this
theorem fdiv_le {b s : Int} (hb : 0 ≤ b) (hs : 0 ≤ s) : (b.fdiv s).natAbs ≤ b.natAbs := by
  obtain ⟨m, rfl⟩ := Int.eq_ofNat_of_zero_le hb
  obtain ⟨n, rfl⟩ := Int.eq_ofNat_of_zero_le hs
  rw [fdiv_nat, Int.natAbs_natCast, Int.natAbs_natCast]
  exact Nat.div_le_self _ _
theorem sh_bd {p q : Pr} (hp : IsN 0 p) : 1 ≤ shB p q ∧ (shB p q).natAbs ≤ p.2.natAbs := by
  have h : 1 ≤ p.2 := by
    rcases hp with ⟨_, h, _⟩ | ⟨h, _⟩
    · exact h
    · exact absurd rfl h
  have h1 : 0 < Nat.gcd p.2.natAbs q.2.natAbs := Nat.gcd_pos_of_pos_left _ (by omega)
  have h2 := Nat.le_of_dvd (by omega) (Nat.gcd_dvd_left p.2.natAbs q.2.natAbs)
  unfold shB
  omega
theorem co_bd {p q : Pr} (hp : IsN 0 p) : 1 ≤ coB p q ∧ (coB p q).natAbs ≤ (shB p q).natAbs := by
  have h := (sh_bd (q := q) hp).1
  have h1 : 0 < Nat.gcd (toB p q).natAbs (shB p q).natAbs := Nat.gcd_pos_of_pos_right _ (by omega)
  have h2 := Nat.le_of_dvd (by omega) (Nat.gcd_dvd_right (toB p q).natAbs (shB p q).natAbs)
  unfold coB
  omega
/-! ### rests by a prime -/
theorem prime_pow : ∀ p ∈ primesN, ∀ a, a < p → a ≠ 0 → a * powN p a (p - 2) % p = 1 := by
  have h : primesN.all (fun p => (List.range p).all fun a => a == 0 || a * powN p a (p - 2) % p == 1) = true := by decide +kernel
  intro p hp a ha h0
  have h1 := List.all_eq_true.mp h p hp
  have h2 := List.all_eq_true.mp h1 a (List.mem_range.mpr ha)
  simpa [h0] using h2
theorem prime_big : ∀ p ∈ primesN, 2 ≤ p ∧ p ≤ 97 := by decide +kernel
def invF (p : Nat) [NeZero p] (a : Fin p) : Fin p := if a = 0 then 0 else Fin.ofNat p (powN p a.val (p - 2))
theorem powN_mod (p b : Nat) : ∀ n, powN p (b % p) n = powN p b n
  | 0 => rfl
  | n + 1 => by
    show powN p (b % p) n * (b % p) % p = powN p b n * b % p
    rw [powN_mod p b n]
    simp
theorem fin_ne {p : Nat} [NeZero p] {a : Fin p} (h : a ≠ 0) : a.val ≠ 0 := fun e => h (Fin.ext (by rw [e]; rfl))
theorem invF_mul {p : Nat} [NeZero p] (hp : p ∈ primesN) (a : Fin p) (ha : a ≠ 0) : a * invF p a = 1 := by
  unfold invF
  rw [if_neg ha]
  apply Fin.ext
  have h := prime_pow p hp a.val a.isLt (fin_ne ha)
  have h2 := (prime_big p hp).1
  rw [Fin.val_mul]
  show a.val * (powN p a.val (p - 2) % p) % p = (1 : Fin p).val
  rw [Nat.mul_mod_mod, h]
  show 1 = 1 % p
  rw [Nat.mod_eq_of_lt (by omega)]
theorem fin_01 {p : Nat} [NeZero p] (h : 2 ≤ p) : (0 : Fin p) ≠ 1 := by
  intro e
  have e2 : (0 : Nat) = 1 % p := congrArg Fin.val e
  rw [Nat.mod_eq_of_lt (by omega)] at e2
  cases e2
def encP (p : Nat) (x : Fin p) : Pr := ((x.val : Int), 1)
def ofP (p : Nat) [NeZero p] (t : Int) : Fin p := Fin.ofNat p (t % p).toNat
theorem ofP_val {p : Nat} [NeZero p] (hp : 2 ≤ p) (t : Int) : ((ofP p t).val : Int) = t % p := by
  show (((t % p).toNat % p : Nat) : Int) = t % p
  have h0 : (0 : Int) ≤ t % p := Int.emod_nonneg t (by omega)
  have h1 : t % (p : Int) < p := Int.emod_lt_of_pos t (by omega)
  rw [Nat.mod_eq_of_lt (by omega)]
  exact Int.toNat_of_nonneg h0
theorem ofP_eq {p : Nat} [NeZero p] (hp : 2 ≤ p) {t : Int} {x : Fin p} (h : t % p = (x.val : Int)) : ofP p t = x := by
  apply Fin.ext
  have := ofP_val hp t
  omega
theorem val_mul_int {p : Nat} (x y : Fin p) : (((x * y : Fin p).val : Nat) : Int) = (x.val : Int) * y.val % p := by
  rw [Fin.val_mul]
  simp
theorem val_add_int {p : Nat} (x y : Fin p) : (((x + y : Fin p).val : Nat) : Int) = ((x.val : Int) + y.val) % p := by
  rw [Fin.val_add]
  simp
theorem p_ne {p : Nat} (hp : 2 ≤ p) : (p : Int) ≠ 0 := by omega
theorem low_p {p : Nat} [NeZero p] (hp : 2 ≤ p) (t b : Int) (hb : ofP p b ≠ 0) : encP p (ofP p t * invF p (ofP p b)) = low p t b := by
  unfold low
  rw [if_pos (p_ne hp)]
  show ((((ofP p t * invF p (ofP p b) : Fin p).val : Nat) : Int), (1 : Int)) = _
  rw [val_mul_int, ofP_val hp]
  have e : (((invF p (ofP p b)).val : Nat) : Int) = powm p (b % p) (p - 2) % p := by
    unfold invF
    rw [if_neg hb]
    show ((powN p (ofP p b).val (p - 2) % p : Nat) : Int) = _
    have h := powm_cast p (ofP p b).val (p - 2)
    rw [ofP_val hp] at h
    rw [h]
    simp
  rw [e]
  have e2 : ((p : Int) - 2).toNat = p - 2 := by omega
  rw [e2, show ∀ a b n : Int, a * (b % n) % n = a * b % n from fun a b n => by rw [Int.mul_emod, Int.emod_emod, ← Int.mul_emod]]
def fdP (p : Nat) [NeZero p] (h : p ∈ primesN) : Fd p :=
  have hp : 2 ≤ p := (prime_big p h).1
  { F := Fin p
    fld := mkField inferInstance (invF p) (fin_01 hp) (if_pos rfl) (invF_mul h)
    dec := inferInstance
    enc := encP p
    inj := fun x y e => by
      have e1 : ((x.val : Nat) : Int) = y.val := congrArg Prod.fst e
      exact Fin.ext (by omega)
    num := fun x => Or.inr ⟨p_ne hp, rfl, by
      show (0 : Int) ≤ (x.val : Int)
      omega, by
      have := x.isLt
      show (x.val : Int) < p
      omega⟩
    sur := fun q hq => by
      rcases hq with ⟨h0, _⟩ | ⟨_, h1, h2, h3⟩
      · exact absurd h0 (p_ne hp)
      · refine ⟨ofP p q.1, ?_⟩
        show (((ofP p q.1).val : Int), (1 : Int)) = q
        rw [ofP_val hp, Int.emod_eq_of_lt h2 h3, ← h1]
    zero := rfl
    one := by
      show (((1 % p : Nat) : Int), (1 : Int)) = (1, 1)
      rw [Nat.mod_eq_of_lt (by omega)]
      rfl
    add := fun x y => by
      unfold addN
      rw [if_pos (p_ne hp)]
      show ((((x + y : Fin p).val : Nat) : Int), (1 : Int)) = _
      rw [val_add_int]
      rfl
    mul := fun x y => by
      unfold mulN
      rw [if_pos (p_ne hp)]
      show ((((x * y : Fin p).val : Nat) : Int), (1 : Int)) = _
      rw [val_mul_int]
      rfl
    neg := fun x => by
      unfold negN
      rw [if_pos (p_ne hp)]
      show ((((-x : Fin p).val : Nat) : Int), (1 : Int)) = ((-(x.val : Int)) % p, 1)
      have hx := x.isLt
      have e : ((-x : Fin p).val) = (p - x.val) % p := rfl
      rw [e, Int.natCast_emod, Int.ofNat_sub (Nat.le_of_lt hx)]
      rw [Int.sub_eq_add_neg, Int.add_comm, Int.add_emod_right]
    inv := fun x hx => by
      show encP p (invF p x) = low p 1 x.val
      have ex : ofP p (x.val : Int) = x := ofP_eq hp (Int.emod_eq_of_lt (by omega) (by have := x.isLt; omega))
      rw [← low_p hp 1 (x.val : Int) (by rw [ex]; exact hx), ex]
      have e1 : ofP p 1 = 1 := ofP_eq hp (by
        show (1 : Int) % p = ((1 % p : Nat) : Int)
        simp)
      rw [e1]
      congr 1
      exact (Semiring.one_mul _).symm
    ofI := ofP p
    low := fun t b hb => low_p hp t b hb
    ofI0 := fun b => by
      rw [if_neg (p_ne hp)]
      have := ofP_val hp b
      constructor
      · intro e
        rw [e] at this
        exact this.symm
      · intro e
        exact ofP_eq hp e
    ofI_add := fun s t => by
      apply ofP_eq hp
      show (s + t) % (p : Int) = (((ofP p s + ofP p t : Fin p).val : Nat) : Int)
      rw [val_add_int, ofP_val hp, ofP_val hp, ← Int.add_emod]
    ofI_mul := fun s t => by
      apply ofP_eq hp
      show (s * t) % (p : Int) = (((ofP p s * ofP p t : Fin p).val : Nat) : Int)
      rw [val_mul_int, ofP_val hp, ofP_val hp, ← Int.mul_emod]
    ofI_one := ofP_eq hp (by
        show (1 : Int) % p = ((1 % p : Nat) : Int)
        simp)
    encI := fun z => by
      rw [if_neg (p_ne hp)]
      show (((ofP p z).val : Int), (1 : Int)) = _
      rw [ofP_val hp] }
theorem fd_ex {f : Int} (h : IsF f) : Nonempty (Fd f) := by
  rcases h with rfl | ⟨p, hp, rfl⟩
  · exact ⟨fdQ⟩
  · have : NeZero p := ⟨by have := (prime_big p hp).1; omega⟩
    exact ⟨fdP p hp⟩
/-! ### sizes of top and bottom -/
theorem fdiv_dvd_abs {t g : Int} (h : g ∣ t) (hg : g ≠ 0) : (t.fdiv g).natAbs ≤ t.natAbs := by
  obtain ⟨u, rfl⟩ := h
  rw [Int.mul_comm, Int.mul_fdiv_cancel _ hg, Int.natAbs_mul]
  have : 1 ≤ g.natAbs := by omega
  exact Nat.le_mul_of_pos_right _ this
theorem gOf_dvd (t b : Int) : gOf t b ∣ t ∧ gOf t b ∣ b := by
  have h1 : ((Nat.gcd t.natAbs b.natAbs : Nat) : Int) ∣ t := by
    rw [Int.ofNat_dvd_left]
    exact Nat.gcd_dvd_left _ _
  have h2 : ((Nat.gcd t.natAbs b.natAbs : Nat) : Int) ∣ b := by
    rw [Int.ofNat_dvd_left]
    exact Nat.gcd_dvd_right _ _
  unfold gOf
  split
  · exact ⟨Int.neg_dvd.mpr h1, Int.neg_dvd.mpr h2⟩
  · exact ⟨h1, h2⟩
theorem low0_le {t b : Int} (hb : b ≠ 0) : (low 0 t b).1.natAbs ≤ t.natAbs ∧ (low 0 t b).2.natAbs ≤ b.natAbs := by
  have hg : gOf t b ≠ 0 := by
    have h := (gOf_dvd t b).2
    intro e
    rw [e] at h
    exact hb (Int.zero_dvd.mp h)
  unfold low
  rw [if_neg (by simp)]
  exact ⟨fdiv_dvd_abs (gOf_dvd t b).1 hg, fdiv_dvd_abs (gOf_dvd t b).2 hg⟩
theorem isN_low0 {t b : Int} (hb : b ≠ 0) : IsN 0 (low 0 t b) := by
  rw [← encQ_low hb]
  exact fdQ.num _
end St
/-! Rows over a field, in plain Lean: what rows make together, reduced rows, and that they are the only ones. -/
namespace Lin
open Lean.Grind
section
variable {F : Type} [Field F]
abbrev Vec (F : Type) := Nat → F
theorem zadd (x : F) : 0 + x = x := by grind
theorem zmul (x : F) : 0 * x = 0 := by grind
theorem mulz (x : F) : x * 0 = 0 := by grind
/-- what the rows make together -/
inductive Sp (rs : List (Vec F)) : Vec F → Prop
  | zero : Sp rs (fun _ => 0)
  | step {v r : Vec F} (c : F) : r ∈ rs → Sp rs v → Sp rs (fun j => v j + c * r j)
theorem Sp.cast {rs : List (Vec F)} {u v : Vec F} (h : Sp rs u) (e : ∀ j, u j = v j) : Sp rs v := (funext e : u = v) ▸ h
theorem Sp.gen {rs : List (Vec F)} {r : Vec F} (h : r ∈ rs) : Sp rs r := (Sp.step 1 h .zero).cast fun j => by grind
theorem Sp.add {rs : List (Vec F)} {u v : Vec F} (hu : Sp rs u) (hv : Sp rs v) : Sp rs (fun j => u j + v j) := by
  induction hv with
  | zero => exact hu.cast fun j => by grind
  | step c h _ ih => exact (ih.step c h).cast fun j => by grind
theorem Sp.mul {rs : List (Vec F)} {u : Vec F} (a : F) (hu : Sp rs u) : Sp rs (fun j => a * u j) := by
  induction hu with
  | zero => exact Sp.zero.cast fun j => by grind
  | step c h _ ih => exact (ih.step (a * c) h).cast fun j => by grind
theorem Sp.lin {rs : List (Vec F)} {u v : Vec F} (hu : Sp rs u) (a : F) (hv : Sp rs v) : Sp rs (fun j => u j + a * v j) := hu.add (hv.mul a)
theorem Sp.trans {rs ss : List (Vec F)} {v : Vec F} (g : ∀ r ∈ rs, Sp ss r) (h : Sp rs v) : Sp ss v := by
  induction h with
  | zero => exact .zero
  | step c h _ ih => exact ih.lin c (g _ h)
theorem Sp.mono {rs ss : List (Vec F)} {v : Vec F} (g : ∀ r ∈ rs, r ∈ ss) (h : Sp rs v) : Sp ss v := h.trans fun r hr => .gen (g r hr)
/-- a place that all rows leave at nought -/
theorem Sp.nought {rs : List (Vec F)} {v : Vec F} {j : Nat} (g : ∀ r ∈ rs, r j = 0) (h : Sp rs v) : v j = 0 := by
  induction h with
  | zero => rfl
  | step c h _ ih =>
    have := g _ h
    grind
/-! ### reduced rows -/
abbrev Lr (F : Type) := Nat × Vec F
structure Ech (A : List (Lr F)) : Prop where
  up : A.Pairwise fun a b => a.1 < b.1
  one : ∀ a ∈ A, a.2 a.1 = 1
  ahead : ∀ a ∈ A, ∀ j, j < a.1 → a.2 j = 0
structure Red (A : List (Lr F)) : Prop extends Ech A where
  alone : ∀ a ∈ A, ∀ b ∈ A, a.1 ≠ b.1 → a.2 b.1 = 0
abbrev rowsOf (A : List (Lr F)) : List (Vec F) := A.map (·.2)
def sumL : List (Lr F) → Vec F → Vec F
  | [], _ => fun _ => 0
  | a :: A, v => fun j => v a.1 * a.2 j + sumL A v j
theorem sumL_zero : ∀ (A : List (Lr F)) (j : Nat), sumL A (fun _ => 0) j = 0
  | [], j => rfl
  | a :: A, j => by
    have := sumL_zero A j
    show 0 * a.2 j + sumL A (fun _ => 0) j = 0
    grind
theorem sumL_lin (c : F) (u w : Vec F) : ∀ (A : List (Lr F)) (j : Nat), sumL A (fun j => u j + c * w j) j = sumL A u j + c * sumL A w j
  | [], j => by
    show (0 : F) = 0 + c * 0
    grind
  | a :: A, j => by
    have := sumL_lin c u w A j
    show (u a.1 + c * w a.1) * a.2 j + sumL A (fun j => u j + c * w j) j = (u a.1 * a.2 j + sumL A u j) + c * (w a.1 * a.2 j + sumL A w j)
    grind
theorem sumL_none {v : Vec F} {j : Nat} : ∀ {A : List (Lr F)}, (∀ a ∈ A, v a.1 * a.2 j = 0) → sumL A v j = 0
  | [], _ => rfl
  | a :: A, h => by
    have h1 := h a (List.mem_cons_self ..)
    have h2 := sumL_none fun b hb => h b (List.mem_cons_of_mem _ hb)
    show v a.1 * a.2 j + sumL A v j = 0
    grind
/-- just one of the leads is asked for -/
theorem sumL_pick {v : Vec F} {b : Lr F} : ∀ {A : List (Lr F)}, (A.Pairwise fun x y => x.1 < y.1) → b ∈ A → v b.1 = 1 → (∀ a ∈ A, a.1 ≠ b.1 → v a.1 = 0) → ∀ j, sumL A v j = b.2 j
  | [], _, h, _, _, _ => by cases h
  | a :: A, hp, hb, h1, h0, j => by
    have hp' := List.pairwise_cons.mp hp
    show v a.1 * a.2 j + sumL A v j = b.2 j
    rcases List.mem_cons.mp hb with rfl | hb'
    · have e : sumL A v j = 0 := sumL_none fun x hx => by
        have := hp'.1 x hx
        have := h0 x (List.mem_cons_of_mem _ hx) (by omega)
        grind
      grind
    · have := hp'.1 b hb'
      have e1 := h0 a (List.mem_cons_self ..) (by omega)
      have e2 := sumL_pick hp'.2 hb' h1 (fun x hx => h0 x (List.mem_cons_of_mem _ hx)) j
      grind
/-- what reduced rows make together is told by its numbers at the leads -/
theorem Red.sum {A : List (Lr F)} (R : Red A) {v : Vec F} (h : Sp (rowsOf A) v) : ∀ j, sumL A v j = v j := by
  induction h with
  | zero => exact sumL_zero A
  | step c h _ ih =>
    intro j
    obtain ⟨b, hb, rfl⟩ := List.mem_map.mp h
    rw [sumL_lin, ih j, sumL_pick R.up hb (R.one b hb) (fun a ha e => R.alone b hb a ha (fun z => e z.symm)) j]
theorem one_ne : (1 : F) ≠ 0 := fun e => Field.zero_ne_one e.symm
theorem Red.lead {A : List (Lr F)} (R : Red A) {v : Vec F} (h : Sp (rowsOf A) v) {l : Nat} (h0 : ∀ j, j < l → v j = 0) (h1 : v l ≠ 0) : ∃ a ∈ A, a.1 = l := by
  refine Classical.byContradiction fun no => h1 ?_
  rw [← R.sum h l]
  refine sumL_none fun a ha => ?_
  rcases Nat.lt_trichotomy a.1 l with h | h | h
  · have := h0 _ h
    grind
  · exact absurd ⟨a, ha, h⟩ no
  · have := R.ahead a ha l h
    grind
theorem Red.mem {A B : List (Lr F)} (RA : Red A) (RB : Red B) (ab : ∀ r ∈ rowsOf A, Sp (rowsOf B) r) (ba : ∀ r ∈ rowsOf B, Sp (rowsOf A) r) {a : Lr F} (ha : a ∈ A) : a ∈ B := by
  have key : ∀ {A B : List (Lr F)}, Red A → Red B → (∀ r ∈ rowsOf A, Sp (rowsOf B) r) → ∀ a ∈ A, ∃ b ∈ B, b.1 = a.1 := fun RA RB ab a ha =>
    RB.lead (ab _ (List.mem_map_of_mem ha)) (RA.ahead a ha) (by rw [RA.one a ha]; exact one_ne)
  obtain ⟨b, hb, e⟩ := key RA RB ab a ha
  have e2 : ∀ j, a.2 j = b.2 j := fun j => by
    rw [← RB.sum (ab _ (List.mem_map_of_mem ha)) j]
    refine sumL_pick RB.up hb (by rw [e]; exact RA.one a ha) (fun c hc ne => ?_) j
    obtain ⟨d, hd, e3⟩ := key RB RA ba c hc
    rw [← e3]
    exact RA.alone a ha d hd (by omega)
  have : a = b := Prod.ext e.symm (funext e2)
  rw [this]
  exact hb
theorem eq_of_up : ∀ {A B : List (Lr F)}, (A.Pairwise fun a b => a.1 < b.1) → (B.Pairwise fun a b => a.1 < b.1) → (∀ a ∈ A, a ∈ B) → (∀ b ∈ B, b ∈ A) → A = B
  | [], [], _, _, _, _ => rfl
  | [], b :: B, _, _, _, h => by cases h b (List.mem_cons_self ..)
  | a :: A, [], _, _, h, _ => by cases h a (List.mem_cons_self ..)
  | a :: A, b :: B, pa, pb, hab, hba => by
    have pa' := List.pairwise_cons.mp pa
    have pb' := List.pairwise_cons.mp pb
    have e : a = b := by
      rcases List.mem_cons.mp (hab a (List.mem_cons_self ..)) with h | h
      · exact h
      · rcases List.mem_cons.mp (hba b (List.mem_cons_self ..)) with h2 | h2
        · exact h2.symm
        · have := pb'.1 a h
          have := pa'.1 b h2
          omega
    subst e
    congr 1
    refine eq_of_up pa'.2 pb'.2 (fun x hx => ?_) (fun x hx => ?_)
    · rcases List.mem_cons.mp (hab x (List.mem_cons_of_mem _ hx)) with h | h
      · have := pa'.1 x hx
        rw [h] at this
        omega
      · exact h
    · rcases List.mem_cons.mp (hba x (List.mem_cons_of_mem _ hx)) with h | h
      · have := pb'.1 x hx
        rw [h] at this
        omega
      · exact h
/-- the reduced rows of what rows make together are the only ones -/
theorem Red.uniq {A B : List (Lr F)} (RA : Red A) (RB : Red B) (ab : ∀ r ∈ rowsOf A, Sp (rowsOf B) r) (ba : ∀ r ∈ rowsOf B, Sp (rowsOf A) r) : A = B :=
  eq_of_up RA.up RB.up (fun _ h => RA.mem RB ab ba h) (fun _ h => RB.mem RA ba ab h)
end
end Lin
/-! The program's elimination over lists of a field, and what it tells. -/
namespace Lin
open Lean.Grind
section
variable {F : Type} [Field F] [DecidableEq F]
def vec (l : List F) : Vec F := fun j => l.getD j 0
theorem vec_lt {l : List F} {j : Nat} (h : j < l.length) : l[j]? = some (vec l j) := by
  unfold vec
  rw [List.getD_eq_getElem?_getD, List.getElem?_eq_getElem h]
  rfl
theorem vec_ge {l : List F} {j : Nat} (h : l.length ≤ j) : vec l j = 0 := by
  unfold vec
  rw [List.getD_eq_getElem?_getD, List.getElem?_eq_none h]
  rfl
theorem vec_inj {l m : List F} (h : l.length = m.length) (e : ∀ j, vec l j = vec m j) : l = m := by
  apply List.ext_getElem? 
  intro i
  by_cases hi : i < l.length
  · rw [vec_lt hi, vec_lt (by omega), e]
  · rw [List.getElem?_eq_none (by omega), List.getElem?_eq_none (by omega)]
/-- swept: the row less such a multiple of by that it is nought at the place -/
def swp (row by' : List F) (p : Nat) : List F := if vec row p = 0 then row else List.zipWith (fun n o => n + (-(vec row p)) * o) row by'
def scl (row : List F) (p : Nat) : List F := row.map fun n => (vec row p)⁻¹ * n
theorem swp_len {row by' : List F} {p : Nat} (h : row.length = by'.length) : (swp row by' p).length = row.length := by
  unfold swp
  split
  · rfl
  · rw [List.length_zipWith]
    omega
theorem scl_len {row : List F} {p : Nat} : (scl row p).length = row.length := List.length_map ..
theorem swp_vec {row by' : List F} {p : Nat} (h : row.length = by'.length) (j : Nat) : vec (swp row by' p) j = vec row j + (-(vec row p)) * vec by' j := by
  unfold swp
  split
  · rename_i e
    rw [e]
    grind
  · by_cases hj : j < row.length
    · have h1 := vec_lt hj
      have h2 := vec_lt (l := by') (j := j) (by omega)
      have h3 : (List.zipWith (fun n o => n + (-(vec row p)) * o) row by')[j]? = some (vec row j + (-(vec row p)) * vec by' j) := by
        rw [List.getElem?_zipWith, h1, h2]
      unfold vec at h3 ⊢
      rw [List.getD_eq_getElem?_getD, h3]
      rfl
    · have e1 := vec_ge (l := row) (j := j) (by omega)
      have e2 := vec_ge (l := by') (j := j) (by omega)
      have e3 := vec_ge (l := List.zipWith (fun n o => n + (-(vec row p)) * o) row by') (j := j) (by rw [List.length_zipWith]; omega)
      rw [e1, e2, e3]
      grind
theorem scl_vec {row : List F} {p : Nat} (j : Nat) : vec (scl row p) j = (vec row p)⁻¹ * vec row j := by
  by_cases hj : j < row.length
  · have h1 := vec_lt hj
    have h3 : (scl row p)[j]? = some ((vec row p)⁻¹ * vec row j) := by
      unfold scl
      rw [List.getElem?_map, h1]
      rfl
    unfold vec at h3 ⊢
    rw [List.getD_eq_getElem?_getD, h3]
    rfl
  · have e1 := vec_ge (l := row) (j := j) (by omega)
    have e2 := vec_ge (l := scl row p) (j := j) (by rw [scl_len]; omega)
    rw [e1, e2]
    grind
/-- where the first row stands that is not nought at the place -/
def fst (rows : List (List F)) (p : Nat) : Option Nat := rows.findIdx? fun r => decide (vec r p ≠ 0)
theorem fst_none {rows : List (List F)} {p : Nat} (h : fst rows p = none) : ∀ r ∈ rows, vec r p = 0 := by
  intro r hr
  have := List.findIdx?_eq_none_iff.mp h r hr
  simpa using this
theorem fst_some {rows : List (List F)} {p i : Nat} (h : fst rows p = some i) : ∃ r, rows[i]? = some r ∧ vec r p ≠ 0 := by
  obtain ⟨h1, h2, _⟩ := List.findIdx?_eq_some_iff_getElem.mp h
  exact ⟨rows[i], List.getElem?_eq_getElem h1, by simpa using h2⟩
def cut (rows : List (List F)) (i : Nat) : List (List F) := rows.take i ++ rows.drop (i + 1)
theorem cut_mem {rows : List (List F)} {i : Nat} {r x : List F} (hr : rows[i]? = some r) : x ∈ rows ↔ x = r ∨ x ∈ cut rows i := by
  have h1 := (List.getElem?_eq_some_iff.mp hr).1
  have h2 : rows[i] = r := (List.getElem?_eq_some_iff.mp hr).2
  have e : rows = rows.take i ++ r :: rows.drop (i + 1) := by
    rw [← h2, ← List.drop_eq_getElem_cons h1, List.take_append_drop]
  unfold cut
  conv => lhs; rw [e]
  simp only [List.mem_append, List.mem_cons]
  constructor
  · rintro (h | h | h)
    · exact .inr (.inl h)
    · exact .inl h
    · exact .inr (.inr h)
  · rintro (h | h | h)
    · exact .inr (.inl h)
    · exact .inl h
    · exact .inr (.inr h)
theorem cut_len {rows : List (List F)} {i : Nat} {r : List F} (hr : rows[i]? = some r) : (cut rows i).length + 1 = rows.length := by
  have h1 := (List.getElem?_eq_some_iff.mp hr).1
  unfold cut
  rw [List.length_append, List.length_take, List.length_drop]
  omega
abbrev Ll (F : Type) := Nat × List F
abbrev vecs (A : List (Ll F)) : List (Lr F) := A.map fun a => (a.1, vec a.2)
abbrev sps (rows : List (List F)) : List (Vec F) := rows.map vec
/-- stepped: the places in their order -/
def steps : List Nat → List (List F) → List (Ll F)
  | [], _ => []
  | p :: ps, left => match fst left p with
    | none => steps ps left
    | some i => (p, scl (left.getD i []) p) :: steps ps ((cut left i).map fun r => swp r (scl (left.getD i []) p) p)
/-- swept by all that are ready, the last one first -/
def clean (row : List F) (done : List (Ll F)) : List F := done.foldr (fun d c => swp c d.2 d.1) row
def back : List (Ll F) → List (Ll F)
  | [] => []
  | a :: A => (a.1, clean a.2 (back A)) :: back A
/-- rows of this length, nought ahead of the place -/
structure Left (w p : Nat) (rows : List (List F)) : Prop where
  len : ∀ r ∈ rows, r.length = w
  nil : ∀ r ∈ rows, ∀ j, j < p → vec r j = 0
theorem getD_of {rows : List (List F)} {i : Nat} {r : List F} (h : rows[i]? = some r) : rows.getD i [] = r := by
  rw [List.getD_eq_getElem?_getD, h]
  rfl
theorem left_step {w p i : Nat} {left : List (List F)} {r : List F} (L : Left w p left) (hr : left[i]? = some r) (h : vec r p ≠ 0) :
    Left w (p + 1) ((cut left i).map fun x => swp x (scl r p) p) := by
  have hrm := List.mem_of_getElem? hr
  have hlr := L.len r hrm
  refine ⟨fun x hx => ?_, fun x hx j hj => ?_⟩ <;> obtain ⟨y, hy, rfl⟩ := List.mem_map.mp hx <;> have hym := (cut_mem hr).mpr (.inr hy) <;> have hly := L.len y hym
  · rw [swp_len (by rw [scl_len]; omega)]
    exact hly
  · rw [swp_vec (by rw [scl_len]; omega), scl_vec]
    rcases Nat.lt_or_ge j p with h1 | h1
    · have e1 := L.nil y hym j h1
      have e2 := L.nil r hrm j h1
      grind
    · have e : j = p := by omega
      subst e
      grind
theorem left_none {w p : Nat} {left : List (List F)} (L : Left w p left) (h : fst left p = none) : Left w (p + 1) left :=
  ⟨L.len, fun r hr j hj => by
    rcases Nat.lt_or_ge j p with h1 | h1
    · exact L.nil r hr j h1
    · have e : j = p := by omega
      subst e
      exact fst_none h r hr⟩
theorem steps_ok {w : Nat} : ∀ (n p : Nat) (left : List (List F)), p + n = w → Left w p left →
    Ech (vecs (steps (List.range' p n) left)) ∧ (∀ a ∈ steps (List.range' p n) left, p ≤ a.1 ∧ a.1 < w ∧ a.2.length = w) ∧
      (∀ r ∈ left, Sp (rowsOf (vecs (steps (List.range' p n) left))) (vec r)) ∧ (∀ a ∈ steps (List.range' p n) left, Sp (sps left) (vec a.2)) ∧ (steps (List.range' p n) left).length ≤ left.length
  | 0, p, left, hw, L => by
    refine ⟨⟨.nil, (fun a h => by cases h), (fun a h => by cases h)⟩, (fun a h => by cases h), fun r hr => ?_, (fun a h => by cases h), Nat.zero_le _⟩
    have e : vec r = fun _ => 0 := funext fun j => by
      rcases Nat.lt_or_ge j p with h | h
      · exact L.nil r hr j h
      · exact vec_ge (by rw [L.len r hr]; omega)
    rw [e]
    exact .zero
  | n + 1, p, left, hw, L => by
    show Ech (vecs (steps (p :: List.range' (p + 1) n) left)) ∧ (∀ a ∈ steps (p :: List.range' (p + 1) n) left, p ≤ a.1 ∧ a.1 < w ∧ a.2.length = w) ∧
      (∀ r ∈ left, Sp (rowsOf (vecs (steps (p :: List.range' (p + 1) n) left))) (vec r)) ∧ (∀ a ∈ steps (p :: List.range' (p + 1) n) left, Sp (sps left) (vec a.2)) ∧ (steps (p :: List.range' (p + 1) n) left).length ≤ left.length
    unfold steps
    cases h : fst left p with
    | none =>
      obtain ⟨h1, h2, h3, h4, h5⟩ := steps_ok n (p + 1) left (by omega) (left_none L h)
      exact ⟨h1, fun a ha => ⟨by have := (h2 a ha).1; omega, (h2 a ha).2⟩, h3, h4, h5⟩
    | some i =>
      obtain ⟨r, hr, hne⟩ := fst_some h
      have hrm := List.mem_of_getElem? hr
      have hlr := L.len r hrm
      show Ech (vecs ((p, scl (left.getD i []) p) :: steps (List.range' (p + 1) n) ((cut left i).map fun x => swp x (scl (left.getD i []) p) p))) ∧ (∀ a ∈ (p, scl (left.getD i []) p) :: steps (List.range' (p + 1) n) ((cut left i).map fun x => swp x (scl (left.getD i []) p) p), p ≤ a.1 ∧ a.1 < w ∧ a.2.length = w) ∧
        (∀ x ∈ left, Sp (rowsOf (vecs ((p, scl (left.getD i []) p) :: steps (List.range' (p + 1) n) ((cut left i).map fun x => swp x (scl (left.getD i []) p) p)))) (vec x)) ∧ (∀ a ∈ (p, scl (left.getD i []) p) :: steps (List.range' (p + 1) n) ((cut left i).map fun x => swp x (scl (left.getD i []) p) p), Sp (sps left) (vec a.2)) ∧
        ((p, scl (left.getD i []) p) :: steps (List.range' (p + 1) n) ((cut left i).map fun x => swp x (scl (left.getD i []) p) p)).length ≤ left.length
      rw [getD_of hr]
      obtain ⟨h1, h2, h3, h4, h5⟩ := steps_ok n (p + 1) _ (by omega) (left_step L hr hne)
      generalize hS : steps (List.range' (p + 1) n) ((cut left i).map fun x => swp x (scl r p) p) = S at *
      have hone : vec (scl r p) p = 1 := by
        rw [scl_vec]
        grind
      refine ⟨⟨List.pairwise_cons.mpr ⟨fun b hb => ?_, h1.up⟩, fun a ha => ?_, fun a ha j hj => ?_⟩, fun a ha => ?_, fun x hx => ?_, fun a ha => ?_, ?_⟩
      · obtain ⟨c, hc, rfl⟩ := List.mem_map.mp hb
        have := (h2 c hc).1
        show p < c.1
        omega
      · rcases List.mem_cons.mp ha with rfl | ha
        · exact hone
        · exact h1.one a ha
      · rcases List.mem_cons.mp ha with rfl | ha
        · have e := L.nil r hrm j hj
          show vec (scl r p) j = 0
          rw [scl_vec, e]
          grind
        · exact h1.ahead a ha j hj
      · rcases List.mem_cons.mp ha with rfl | ha
        · exact ⟨Nat.le_refl _, (by show p < w; omega), by show (scl r p).length = w; rw [scl_len]; exact hlr⟩
        · have := h2 a ha
          exact ⟨by omega, this.2⟩
      · have g0 : Sp (rowsOf (vecs ((p, scl r p) :: S))) (vec (scl r p)) := .gen (List.mem_cons_self ..)
        rcases (cut_mem hr).mp hx with rfl | hx
        · exact (g0.mul (vec x p)).cast fun j => by
            rw [scl_vec]
            grind
        · have h := h3 _ (List.mem_map_of_mem hx)
          have h := h.mono (ss := rowsOf (vecs ((p, scl r p) :: S))) fun y hy => List.mem_cons_of_mem _ hy
          exact (h.lin (vec x p) g0).cast fun j => by
            rw [swp_vec (by rw [scl_len, hlr, L.len x ((cut_mem hr).mpr (.inr hx))])]
            grind
      · have gr : Sp (sps left) (vec r) := .gen (List.mem_map_of_mem hrm)
        have gs : Sp (sps left) (vec (scl r p)) := (gr.mul (vec r p)⁻¹).cast fun j => (scl_vec j).symm
        rcases List.mem_cons.mp ha with rfl | ha
        · exact gs
        · refine (h4 a ha).trans fun y hy => ?_
          obtain ⟨z, hz, rfl⟩ := List.mem_map.mp hy
          obtain ⟨x, hx, rfl⟩ := List.mem_map.mp hz
          have hxm := (cut_mem hr).mpr (.inr hx)
          exact ((Sp.gen (List.mem_map_of_mem hxm)).lin (-(vec x p)) gs).cast fun j => (swp_vec (by rw [scl_len, hlr, L.len x hxm]) j).symm
      · have := cut_len hr
        rw [List.length_map] at h5
        show S.length + 1 ≤ left.length
        omega
end
end Lin
namespace Lin
open Lean.Grind
section
variable {F : Type} [Field F] [DecidableEq F]
theorem Red.tail {a : Lr F} {A : List (Lr F)} (R : Red (a :: A)) : Red A :=
  ⟨⟨(List.pairwise_cons.mp R.up).2, fun b hb => R.one b (List.mem_cons_of_mem _ hb), fun b hb => R.ahead b (List.mem_cons_of_mem _ hb)⟩, fun b hb c hc => R.alone b (List.mem_cons_of_mem _ hb) c (List.mem_cons_of_mem _ hc)⟩
theorem Ech.tail {a : Lr F} {A : List (Lr F)} (R : Ech (a :: A)) : Ech A :=
  ⟨(List.pairwise_cons.mp R.up).2, fun b hb => R.one b (List.mem_cons_of_mem _ hb), fun b hb => R.ahead b (List.mem_cons_of_mem _ hb)⟩
/-- reduced rows in any order -/
structure RedU (A : List (Lr F)) : Prop where
  dist : A.Pairwise fun a b => a.1 ≠ b.1
  one : ∀ a ∈ A, a.2 a.1 = 1
  ahead : ∀ a ∈ A, ∀ j, j < a.1 → a.2 j = 0
  alone : ∀ a ∈ A, ∀ b ∈ A, a.1 ≠ b.1 → a.2 b.1 = 0
theorem Red.toU {A : List (Lr F)} (R : Red A) : RedU A := ⟨R.up.imp fun h => Nat.ne_of_lt h, R.one, R.ahead, R.alone⟩
theorem RedU.toR {A : List (Lr F)} (R : RedU A) (h : A.Pairwise fun a b => a.1 < b.1) : Red A := ⟨⟨h, R.one, R.ahead⟩, R.alone⟩
theorem RedU.tail {a : Lr F} {A : List (Lr F)} (R : RedU (a :: A)) : RedU A :=
  ⟨(List.pairwise_cons.mp R.dist).2, fun b hb => R.one b (List.mem_cons_of_mem _ hb), fun b hb => R.ahead b (List.mem_cons_of_mem _ hb), fun b hb c hc => R.alone b (List.mem_cons_of_mem _ hb) c (List.mem_cons_of_mem _ hc)⟩
theorem RedU.perm {A B : List (Lr F)} (R : RedU A) (h : A.Perm B) : RedU B :=
  ⟨h.pairwise R.dist fun h e => h e.symm, fun b hb => R.one b (h.mem_iff.mpr hb), fun b hb => R.ahead b (h.mem_iff.mpr hb), fun b hb c hc => R.alone b (h.mem_iff.mpr hb) c (h.mem_iff.mpr hc)⟩
theorem clean_ok {w : Nat} {row : List F} (hrow : row.length = w) : ∀ {D : List (Ll F)}, RedU (vecs D) → (∀ d ∈ D, d.2.length = w) →
    (clean row D).length = w ∧ (∀ j, (∀ d ∈ D, vec d.2 j = 0) → vec (clean row D) j = vec row j) ∧ (∀ d ∈ D, vec (clean row D) d.1 = 0) ∧
      (∀ rs : List (Vec F), Sp rs (vec row) → (∀ d ∈ D, Sp rs (vec d.2)) → Sp rs (vec (clean row D))) ∧ (∀ rs : List (Vec F), Sp rs (vec (clean row D)) → (∀ d ∈ D, Sp rs (vec d.2)) → Sp rs (vec row))
  | [], _, _ => ⟨hrow, fun _ _ => rfl, (fun d h => by cases h), fun _ h _ => h, fun _ h _ => h⟩
  | d :: D, R, hl => by
    have hd := hl d (List.mem_cons_self ..)
    obtain ⟨h1, h2, h3, h4, h5⟩ := clean_ok hrow (D := D) R.tail fun e he => hl e (List.mem_cons_of_mem _ he)
    have e : clean row (d :: D) = swp (clean row D) d.2 d.1 := rfl
    have ev : ∀ j, vec (clean row (d :: D)) j = vec (clean row D) j + (-(vec (clean row D) d.1)) * vec d.2 j := fun j => by rw [e, swp_vec (by omega)]
    have hone : vec d.2 d.1 = 1 := R.one (d.1, vec d.2) (List.mem_cons_self ..)
    refine ⟨by rw [e, swp_len (by omega)]; exact h1, fun j hj => ?_, fun x hx => ?_, fun rs g1 g2 => ?_, fun rs g1 g2 => ?_⟩
    · have e1 := hj d (List.mem_cons_self ..)
      have e2 := h2 j fun x hx => hj x (List.mem_cons_of_mem _ hx)
      rw [ev, e1, e2]
      grind
    · rcases List.mem_cons.mp hx with rfl | hx
      · rw [ev, hone]
        grind
      · have ne : d.1 ≠ x.1 := by
          exact (List.pairwise_cons.mp R.dist).1 (x.1, vec x.2) (List.mem_map_of_mem hx)
        have e1 : vec d.2 x.1 = 0 := R.alone (d.1, vec d.2) (List.mem_cons_self ..) (x.1, vec x.2) (List.mem_cons_of_mem _ (List.mem_map_of_mem hx)) ne
        have e2 := h3 x hx
        rw [ev, e1, e2]
        grind
    · exact ((h4 rs g1 fun x hx => g2 x (List.mem_cons_of_mem _ hx)).lin (-(vec (clean row D) d.1)) (g2 d (List.mem_cons_self ..))).cast fun j => (ev j).symm
    · refine h5 rs ?_ fun x hx => g2 x (List.mem_cons_of_mem _ hx)
      exact (g1.lin (vec (clean row D) d.1) (g2 d (List.mem_cons_self ..))).cast fun j => by
        rw [ev]
        grind
theorem back_ok {w : Nat} : ∀ {A : List (Ll F)}, Ech (vecs A) → (∀ a ∈ A, a.2.length = w) →
    Red (vecs (back A)) ∧ (back A).map (·.1) = A.map (·.1) ∧ (∀ a ∈ back A, a.2.length = w) ∧ (∀ a ∈ back A, Sp (rowsOf (vecs A)) (vec a.2)) ∧ (∀ a ∈ A, Sp (rowsOf (vecs (back A))) (vec a.2))
  | [], _, _ => ⟨⟨⟨.nil, (fun a h => by cases h), (fun a h => by cases h)⟩, (fun a h => by cases h)⟩, rfl, (fun a h => by cases h), (fun a h => by cases h), (fun a h => by cases h)⟩
  | a :: A, E, hl => by
    have ha := hl a (List.mem_cons_self ..)
    obtain ⟨R, hm, hw, g1, g2⟩ := back_ok (A := A) E.tail fun x hx => hl x (List.mem_cons_of_mem _ hx)
    obtain ⟨c1, c2, c3, c4, c5⟩ := clean_ok ha R.toU hw
    have up : ∀ d ∈ back A, a.1 < d.1 := fun d hd => by
      have : d.1 ∈ A.map (·.1) := by
        rw [← hm]
        exact List.mem_map_of_mem hd
      obtain ⟨b, hb, e⟩ := List.mem_map.mp this
      have := (List.pairwise_cons.mp E.up).1 (b.1, vec b.2) (List.mem_map_of_mem hb)
      have : a.1 < b.1 := this
      omega
    have az : ∀ j, j ≤ a.1 → ∀ d ∈ back A, vec d.2 j = 0 := fun j hj d hd => R.ahead (d.1, vec d.2) (List.mem_map_of_mem hd) j (by have := up d hd; show j < d.1; omega)
    show Red (vecs ((a.1, clean a.2 (back A)) :: back A)) ∧ ((a.1, clean a.2 (back A)) :: back A).map (·.1) = (a :: A).map (·.1) ∧ (∀ x ∈ (a.1, clean a.2 (back A)) :: back A, x.2.length = w) ∧
      (∀ x ∈ (a.1, clean a.2 (back A)) :: back A, Sp (rowsOf (vecs (a :: A))) (vec x.2)) ∧ (∀ x ∈ a :: A, Sp (rowsOf (vecs ((a.1, clean a.2 (back A)) :: back A))) (vec x.2))
    have m1 : ∀ x ∈ back A, Sp (rowsOf (vecs (a :: A))) (vec x.2) := fun x hx => (g1 x hx).mono fun y hy => List.mem_cons_of_mem _ hy
    have m2 : ∀ d ∈ back A, Sp (rowsOf (vecs ((a.1, clean a.2 (back A)) :: back A))) (vec d.2) := fun d hd => .gen (List.mem_cons_of_mem _ (List.mem_map_of_mem (f := fun x : Lr F => x.2) (List.mem_map_of_mem hd)))
    refine ⟨⟨⟨List.pairwise_cons.mpr ⟨fun b hb => ?_, R.up⟩, fun b hb => ?_, fun b hb j hj => ?_⟩, fun b hb c hc ne => ?_⟩, ?_, fun x hx => ?_, fun x hx => ?_, fun x hx => ?_⟩
    · obtain ⟨d, hd, rfl⟩ := List.mem_map.mp hb
      exact up d hd
    · rcases List.mem_cons.mp hb with rfl | hb
      · show vec (clean a.2 (back A)) a.1 = 1
        rw [c2 a.1 (az a.1 (Nat.le_refl _))]
        exact E.one (a.1, vec a.2) (List.mem_cons_self ..)
      · exact R.one b hb
    · rcases List.mem_cons.mp hb with rfl | hb
      · have hj : j < a.1 := hj
        show vec (clean a.2 (back A)) j = 0
        rw [c2 j (az j (by omega))]
        exact E.ahead (a.1, vec a.2) (List.mem_cons_self ..) j hj
      · exact R.ahead b hb j hj
    · rcases List.mem_cons.mp hb with rfl | hb <;> rcases List.mem_cons.mp hc with rfl | hc
      · exact absurd rfl ne
      · obtain ⟨d, hd, rfl⟩ := List.mem_map.mp hc
        exact c3 d hd
      · obtain ⟨d, hd, rfl⟩ := List.mem_map.mp hb
        exact az a.1 (Nat.le_refl _) d hd
      · exact R.alone b hb c hc ne
    · show a.1 :: (back A).map (·.1) = a.1 :: A.map (·.1)
      rw [hm]
    · rcases List.mem_cons.mp hx with rfl | hx
      · exact c1
      · exact hw x hx
    · rcases List.mem_cons.mp hx with rfl | hx
      · exact c4 _ (.gen (List.mem_cons_self ..)) m1
      · exact m1 x hx
    · rcases List.mem_cons.mp hx with rfl | hx
      · exact c5 _ (.gen (List.mem_cons_self ..)) m2
      · refine (g2 x hx).mono fun y hy => List.mem_cons_of_mem _ hy
/-- the program's reduced rows -/
def redL (w : Nat) (rows : List (List F)) : List (Ll F) := back (steps (List.range' 0 w) rows)
theorem left_start {w : Nat} {rows : List (List F)} (h : ∀ r ∈ rows, r.length = w) : Left w 0 rows := ⟨h, fun _ _ _ hj => absurd hj (Nat.not_lt_zero _)⟩
structure RedOf (w : Nat) (rows : List (List F)) (A : List (Ll F)) : Prop where
  red : Red (vecs A)
  len : ∀ a ∈ A, a.2.length = w
  into : ∀ r ∈ rows, Sp (rowsOf (vecs A)) (vec r)
  of : ∀ a ∈ A, Sp (sps rows) (vec a.2)
theorem redL_ok {w : Nat} {rows : List (List F)} (h : ∀ r ∈ rows, r.length = w) : RedOf w rows (redL w rows) ∧ (redL w rows).map (·.1) = (steps (List.range' 0 w) rows).map (·.1) := by
  obtain ⟨h1, h2, h3, h4, h5⟩ := steps_ok w 0 rows (Nat.zero_add w) (left_start h)
  obtain ⟨R, hm, hw, g1, g2⟩ := back_ok h1 fun a ha => (h2 a ha).2.2
  refine ⟨⟨R, hw, fun r hr => (h3 r hr).trans fun y hy => ?_, fun a ha => (g1 a ha).trans fun y hy => ?_⟩, hm⟩
  · obtain ⟨z, hz, rfl⟩ := List.mem_map.mp hy
    obtain ⟨x, hx, rfl⟩ := List.mem_map.mp hz
    exact g2 x hx
  · obtain ⟨z, hz, rfl⟩ := List.mem_map.mp hy
    obtain ⟨x, hx, rfl⟩ := List.mem_map.mp hz
    exact h4 x hx
theorem map_inj_len {w : Nat} : ∀ {A B : List (Ll F)}, (∀ a ∈ A, a.2.length = w) → (∀ b ∈ B, b.2.length = w) → vecs A = vecs B → A = B
  | [], [], _, _, _ => rfl
  | [], b :: B, _, _, e => by cases e
  | a :: A, [], _, _, e => by cases e
  | a :: A, b :: B, ha, hb, e => by
    have e1 : (a.1, vec a.2) = (b.1, vec b.2) := (List.cons.inj e).1
    have e2 := (List.cons.inj e).2
    have l1 := ha a (List.mem_cons_self ..)
    have l2 := hb b (List.mem_cons_self ..)
    have e3 : a = b := Prod.ext (Prod.mk.inj e1).1 (vec_inj (by omega) fun j => congrFun (Prod.mk.inj e1).2 j)
    rw [e3, map_inj_len (fun x hx => ha x (List.mem_cons_of_mem _ hx)) (fun x hx => hb x (List.mem_cons_of_mem _ hx)) e2]
/-- reduced rows of rows that make the same together are the same -/
theorem RedOf.uniq {w : Nat} {rows : List (List F)} {A B : List (Ll F)} (a : RedOf w rows A) (b : RedOf w rows B) : A = B := by
  have key : ∀ {A B : List (Ll F)}, RedOf w rows A → RedOf w rows B → ∀ r ∈ rowsOf (vecs A), Sp (rowsOf (vecs B)) r := fun a b r hr => by
    obtain ⟨z, hz, rfl⟩ := List.mem_map.mp hr
    obtain ⟨x, hx, rfl⟩ := List.mem_map.mp hz
    refine (a.of x hx).trans fun y hy => ?_
    obtain ⟨u, hu, rfl⟩ := List.mem_map.mp hy
    exact b.into u hu
  exact map_inj_len a.len b.len (Red.uniq a.red b.red (key a b) (key b a))
/-! ### the law's own reducing -/
def lawStep (w : Nat) (kept : List (Ll F)) (r : List F) : List (Ll F) :=
  let c := kept.foldl (fun c d => swp c d.2 d.1) r
  match (List.range w).find? fun j => decide (vec c j ≠ 0) with
  | none => kept
  | some p => kept.map (fun d => (d.1, swp d.2 (scl c p) p)) ++ [(p, scl c p)]
structure RedW (w : Nat) (rows : List (List F)) (A : List (Ll F)) : Prop where
  red : RedU (vecs A)
  len : ∀ a ∈ A, a.2.length = w
  lead : ∀ a ∈ A, a.1 < w
  into : ∀ r ∈ rows, Sp (rowsOf (vecs A)) (vec r)
  of : ∀ a ∈ A, Sp (sps rows) (vec a.2)
theorem find_range {w : Nat} {c : List F} {p : Nat} (h : (List.range w).find? (fun j => decide (vec c j ≠ 0)) = some p) : p < w ∧ vec c p ≠ 0 ∧ ∀ j, j < p → vec c j = 0 := by
  obtain ⟨h1, h2, h3⟩ := List.find?_range_eq_some.mp h
  refine ⟨List.mem_range.mp h2, of_decide_eq_true h1, fun j hj => ?_⟩
  have := h3 j hj
  simpa using this
theorem foldl_clean {kept : List (Ll F)} {r : List F} : kept.foldl (fun c d => swp c d.2 d.1) r = clean r kept.reverse := by
  unfold clean
  rw [List.foldr_reverse]
theorem law_step {w : Nat} {rows : List (List F)} {kept : List (Ll F)} {r : List F} (hr : r.length = w) (K : RedW w rows kept) : RedW w (rows ++ [r]) (lawStep w kept r) := by
  have RU : RedU (vecs kept.reverse) := by
    refine K.red.perm ?_
    show (kept.map _).Perm (kept.reverse.map _)
    exact (List.reverse_perm kept).symm.map _
  obtain ⟨c1, c2, c3, c4, c5⟩ := clean_ok hr RU fun a ha => K.len a (List.mem_reverse.mp ha)
  have e : lawStep w kept r = match (List.range w).find? fun j => decide (vec (clean r kept.reverse) j ≠ 0) with
      | none => kept
      | some p => kept.map (fun d => (d.1, swp d.2 (scl (clean r kept.reverse) p) p)) ++ [(p, scl (clean r kept.reverse) p)] := by
    unfold lawStep
    rw [foldl_clean]
  rw [e]
  generalize clean r kept.reverse = c at *
  have gk : ∀ {ss : List (Vec F)}, (∀ d ∈ kept, Sp ss (vec d.2)) → ∀ d ∈ kept.reverse, Sp ss (vec d.2) := fun h d hd => h d (List.mem_reverse.mp hd)
  have gr : Sp (sps (rows ++ [r])) (vec r) := .gen (List.mem_map_of_mem (List.mem_append_right _ (List.mem_cons_self ..)))
  have go : ∀ d ∈ kept, Sp (sps (rows ++ [r])) (vec d.2) := fun d hd => (K.of d hd).mono fun y hy => by
    obtain ⟨x, hx, rfl⟩ := List.mem_map.mp hy
    exact List.mem_map_of_mem (List.mem_append_left _ hx)
  have gc : Sp (sps (rows ++ [r])) (vec c) := c4 _ gr (gk go)
  cases h : (List.range w).find? fun j => decide (vec c j ≠ 0) with
  | none =>
    refine ⟨K.red, K.len, K.lead, fun x hx => ?_, go⟩
    rcases List.mem_append.mp hx with hx | hx
    · exact K.into x hx
    · rw [List.mem_singleton.mp hx]
      have z : vec c = fun _ => 0 := funext fun j => by
        rcases Nat.lt_or_ge j w with hj | hj
        · have := List.find?_eq_none.mp h j (List.mem_range.mpr hj)
          simpa using this
        · exact vec_ge (by omega)
      exact c5 _ (by rw [z]; exact .zero) (gk fun d hd => .gen (List.mem_map_of_mem (f := fun x : Lr F => x.2) (List.mem_map_of_mem hd)))
  | some p =>
    obtain ⟨hp, hne, hz⟩ := find_range h
    show RedW w (rows ++ [r]) (kept.map (fun d => (d.1, swp d.2 (scl c p) p)) ++ [(p, scl c p)])
    have hsl : (scl c p).length = w := by rw [scl_len]; exact c1
    have hone : vec (scl c p) p = 1 := by
      rw [scl_vec]
      grind
    have hk : ∀ d ∈ kept, vec (scl c p) d.1 = 0 := fun d hd => by
      have := c3 d (List.mem_reverse.mpr hd)
      rw [scl_vec, this]
      grind
    have hah : ∀ j, j < p → vec (scl c p) j = 0 := fun j hj => by
      rw [scl_vec, hz j hj]
      grind
    have hpn : ∀ d ∈ kept, d.1 ≠ p := fun d hd e => hne (by rw [← e]; exact c3 d (List.mem_reverse.mpr hd))
    have hs : ∀ d ∈ kept, ∀ j, vec (swp d.2 (scl c p) p) j = vec d.2 j + (-(vec d.2 p)) * vec (scl c p) j := fun d hd j => swp_vec (by rw [hsl]; exact K.len d hd) j
    have gs : ∀ {ss : List (Vec F)}, Sp ss (vec c) → Sp ss (vec (scl c p)) := fun h => (h.mul (vec c p)⁻¹).cast fun j => (scl_vec j).symm
    have mem : ∀ {x : Lr F}, x ∈ vecs (kept.map (fun d => (d.1, swp d.2 (scl c p) p)) ++ [(p, scl c p)]) → (∃ d ∈ kept, x = (d.1, vec (swp d.2 (scl c p) p))) ∨ x = (p, vec (scl c p)) := fun {x} hx => by
      obtain ⟨y, hy, rfl⟩ := List.mem_map.mp hx
      rcases List.mem_append.mp hy with hy | hy
      · obtain ⟨d, hd, rfl⟩ := List.mem_map.mp hy
        exact .inl ⟨d, hd, rfl⟩
      · rw [List.mem_singleton.mp hy]
        exact .inr rfl
    refine ⟨⟨?_, fun x hx => ?_, fun x hx j hj => ?_, fun x hx y hy ne => ?_⟩, fun x hx => ?_, fun x hx => ?_, fun x hx => ?_, fun x hx => ?_⟩
    · show ((kept.map (fun d => (d.1, swp d.2 (scl c p) p)) ++ [(p, scl c p)]).map fun a => (a.1, vec a.2)).Pairwise _
      rw [List.map_append, List.map_map]
      refine List.pairwise_append.mpr ⟨?_, List.pairwise_singleton .., fun a ha b hb => ?_⟩
      · have h := K.red.dist
        rw [List.pairwise_map] at h ⊢
        exact h
      · obtain ⟨d, hd, rfl⟩ := List.mem_map.mp ha
        rw [List.mem_singleton.mp hb]
        exact hpn d hd
    · rcases mem hx with ⟨d, hd, rfl⟩ | rfl
      · show vec (swp d.2 (scl c p) p) d.1 = 1
        have e1 : vec d.2 d.1 = 1 := K.red.one (d.1, vec d.2) (List.mem_map_of_mem hd)
        rw [hs d hd, e1, hk d hd]
        grind
      · exact hone
    · rcases mem hx with ⟨d, hd, rfl⟩ | rfl
      · have hj : j < d.1 := hj
        show vec (swp d.2 (scl c p) p) j = 0
        have za := K.red.ahead (d.1, vec d.2) (List.mem_map_of_mem hd)
        have e1 : vec d.2 j = 0 := za j hj
        rw [hs d hd, e1]
        rcases Nat.lt_or_ge p d.1 with h1 | h1
        · have e2 : vec d.2 p = 0 := za p h1
          rw [e2]
          grind
        · rw [hah j (by omega)]
          grind
      · exact hah j hj
    · rcases mem hx with ⟨d, hd, rfl⟩ | rfl <;> rcases mem hy with ⟨d2, hd2, rfl⟩ | rfl
      · show vec (swp d.2 (scl c p) p) d2.1 = 0
        have e1 : vec d.2 d2.1 = 0 := K.red.alone (d.1, vec d.2) (List.mem_map_of_mem hd) (d2.1, vec d2.2) (List.mem_map_of_mem hd2) ne
        rw [hs d hd, e1, hk d2 hd2]
        grind
      · show vec (swp d.2 (scl c p) p) p = 0
        rw [hs d hd, hone]
        grind
      · exact hk d2 hd2
      · exact absurd rfl ne
    · rcases List.mem_append.mp hx with hx | hx
      · obtain ⟨d, hd, rfl⟩ := List.mem_map.mp hx
        show (swp d.2 (scl c p) p).length = w
        rw [swp_len (by rw [hsl]; exact K.len d hd)]
        exact K.len d hd
      · rw [List.mem_singleton.mp hx]
        exact hsl
    · rcases List.mem_append.mp hx with hx | hx
      · obtain ⟨d, hd, rfl⟩ := List.mem_map.mp hx
        exact K.lead d hd
      · rw [List.mem_singleton.mp hx]
        exact hp
    · have w1 : Sp (rowsOf (vecs (kept.map (fun d => (d.1, swp d.2 (scl c p) p)) ++ [(p, scl c p)]))) (vec (scl c p)) :=
        .gen (List.mem_map_of_mem (f := fun x : Lr F => x.2) (List.mem_map_of_mem (f := fun a : Ll F => (a.1, vec a.2)) (List.mem_append_right _ (List.mem_cons_self ..))))
      have w2 : ∀ d ∈ kept, Sp (rowsOf (vecs (kept.map (fun d => (d.1, swp d.2 (scl c p) p)) ++ [(p, scl c p)]))) (vec d.2) := fun d hd => by
        have h : Sp (rowsOf (vecs (kept.map (fun d => (d.1, swp d.2 (scl c p) p)) ++ [(p, scl c p)]))) (vec (swp d.2 (scl c p) p)) :=
          .gen (List.mem_map_of_mem (f := fun x : Lr F => x.2) (List.mem_map_of_mem (f := fun a : Ll F => (a.1, vec a.2)) (List.mem_append_left _ (List.mem_map_of_mem (f := fun d : Ll F => (d.1, swp d.2 (scl c p) p)) hd))))
        exact (h.lin (vec d.2 p) w1).cast fun j => by
          rw [hs d hd]
          grind
      rcases List.mem_append.mp hx with hx | hx
      · refine (K.into x hx).trans fun y hy => ?_
        obtain ⟨z, hz, rfl⟩ := List.mem_map.mp hy
        obtain ⟨d, hd, rfl⟩ := List.mem_map.mp hz
        exact w2 d hd
      · rw [List.mem_singleton.mp hx]
        refine c5 _ ?_ (gk w2)
        exact (w1.mul (vec c p)).cast fun j => by
          rw [scl_vec]
          grind
    · rcases List.mem_append.mp hx with hx | hx
      · obtain ⟨d, hd, rfl⟩ := List.mem_map.mp hx
        exact ((go d hd).lin (-(vec d.2 p)) (gs gc)).cast fun j => (hs d hd j).symm
      · rw [List.mem_singleton.mp hx]
        exact gs gc
def lawRed (w : Nat) (rows : List (List F)) : List (Ll F) := rows.foldl (lawStep w) []
theorem lawRed_ok {w : Nat} : ∀ (rows done : List (List F)) (kept : List (Ll F)), (∀ r ∈ rows, r.length = w) → RedW w done kept → RedW w (done ++ rows) (rows.foldl (lawStep w) kept)
  | [], done, kept, _, K => by
    rw [List.append_nil]
    exact K
  | r :: rows, done, kept, h, K => by
    have := lawRed_ok rows (done ++ [r]) (lawStep w kept r) (fun x hx => h x (List.mem_cons_of_mem _ hx)) (law_step (h r (List.mem_cons_self ..)) K)
    rw [List.append_assoc] at this
    exact this
theorem lawRed_start {w : Nat} : RedW w ([] : List (List F)) [] := ⟨⟨.nil, (fun a h => by cases h), (fun a h => by cases h), (fun a h => by cases h)⟩, (fun a h => by cases h), (fun a h => by cases h), (fun a h => by cases h), (fun a h => by cases h)⟩
/-- sorted by leads, the law's are the program's -/
theorem law_same {w : Nat} {rows : List (List F)} {B : List (Ll F)} (h : ∀ r ∈ rows, r.length = w) (p : (lawRed w rows).Perm B) (up : B.Pairwise fun a b => a.1 < b.1) : redL w rows = B := by
  have K := lawRed_ok rows [] [] h lawRed_start
  rw [List.nil_append] at K
  have pv : (vecs (lawRed w rows)).Perm (vecs B) := p.map _
  refine RedOf.uniq (redL_ok h).1 ⟨(K.red.perm pv).toR ?_, fun a ha => K.len a (p.mem_iff.mpr ha), fun r hr => (K.into r hr).mono fun y hy => ?_, fun a ha => K.of a (p.mem_iff.mpr ha)⟩
  · rw [List.pairwise_map]
    exact up
  · exact (pv.map (fun x : Lr F => x.2)).mem_iff.mp hy
end
end Lin
/-! How great the numbers of swept rows can grow: by one bottom for the whole row. -/
namespace Lin
open Lean.Grind St
section
variable {f : Int} (D : Fd f)
/-- all of the row over one bottom -/
def Ht (n : Nat) (v : Vec D.F) : Prop := letI := D.fld; ∃ (d : Int) (z : Nat → Int), D.ofI d ≠ 0 ∧ d.natAbs < 2 ^ n ∧ ∀ j, (z j).natAbs < 2 ^ n ∧ v j = D.ofI (z j) * (D.ofI d)⁻¹
variable {D}
theorem Ht.mono {n m : Nat} {v : Vec D.F} (h : Ht D n v) (k : n ≤ m) : Ht D m v := by
  obtain ⟨d, z, h0, h1, h2⟩ := h
  have e : 2 ^ n ≤ 2 ^ m := Nat.pow_le_pow_right (by decide) k
  exact ⟨d, z, h0, Nat.lt_of_lt_of_le h1 e, fun j => ⟨Nat.lt_of_lt_of_le (h2 j).1 e, (h2 j).2⟩⟩
theorem ofI_zero : letI := D.fld; D.ofI 0 = 0 := (D.ofI0 0).mpr (by split <;> simp)
theorem ofI_neg (t : Int) : letI := D.fld; D.ofI (-t) = -(D.ofI t) := by
  letI := D.fld
  have h := D.ofI_add t (-t)
  rw [Int.add_right_neg, ofI_zero] at h
  grind
theorem two_pow {a b n m : Nat} (h1 : a < 2 ^ n) (h2 : b < 2 ^ m) : a * b < 2 ^ (n + m) := by
  rw [Nat.pow_add]
  exact Nat.mul_lt_mul'' h1 h2
theorem Ht.swp {n m : Nat} {u v : Vec D.F} {p : Nat} (hu : Ht D n u) (hv : Ht D m v) : letI := D.fld; Ht D (n + m + 1) (fun j => u j + (-(u p)) * v j) := by
  letI := D.fld
  obtain ⟨d, z, d0, d1, d2⟩ := hu
  obtain ⟨e, y, e0, e1, e2⟩ := hv
  refine ⟨d * e, fun j => z j * e + -(z p * y j), ?_, ?_, fun j => ⟨?_, ?_⟩⟩
  · rw [D.ofI_mul]
    grind
  · rw [Int.natAbs_mul]
    exact Nat.lt_of_lt_of_le (two_pow d1 e1) (Nat.pow_le_pow_right (by decide) (by omega))
  · have h1 := two_pow (d2 j).1 e1
    have h2 := two_pow (d2 p).1 (e2 j).1
    have h3 := Int.natAbs_add_le (z j * e) (-(z p * y j))
    rw [Int.natAbs_neg, Int.natAbs_mul, Int.natAbs_mul] at h3
    show (z j * e + -(z p * y j)).natAbs < _
    rw [Nat.pow_succ]
    omega
  · show u j + (-(u p)) * v j = D.ofI (z j * e + -(z p * y j)) * (D.ofI (d * e))⁻¹
    rw [D.ofI_add, ofI_neg, D.ofI_mul, D.ofI_mul, D.ofI_mul, (d2 j).2, (d2 p).2, (e2 j).2]
    generalize D.ofI d = A at *
    generalize D.ofI e = B at *
    generalize D.ofI (z j) = X
    generalize D.ofI (z p) = Y
    generalize D.ofI (y j) = Z
    grind
theorem Ht.scl {n : Nat} {u : Vec D.F} {p : Nat} (hu : Ht D n u) (h : letI := D.fld; u p ≠ 0) : letI := D.fld; Ht D n (fun j => (u p)⁻¹ * u j) := by
  letI := D.fld
  obtain ⟨d, z, d0, d1, d2⟩ := hu
  have hz : D.ofI (z p) ≠ 0 := fun e => h (by
    rw [(d2 p).2, e]
    grind)
  refine ⟨z p, z, hz, (d2 p).1, fun j => ⟨(d2 j).1, ?_⟩⟩
  show (u p)⁻¹ * u j = D.ofI (z j) * (D.ofI (z p))⁻¹
  rw [(d2 j).2, (d2 p).2]
  generalize D.ofI d = A at *
  generalize D.ofI (z j) = X
  generalize D.ofI (z p) = Y at *
  grind
theorem Ht.mul {n m : Nat} {u : Vec D.F} (hu : Ht D n u) {c : D.F} {t b : Int} (hb : letI := D.fld; D.ofI b ≠ 0) (e : letI := D.fld; c = D.ofI t * (D.ofI b)⁻¹) (ht : t.natAbs < 2 ^ m) (hb2 : b.natAbs < 2 ^ m) : letI := D.fld; Ht D (n + m) (fun j => u j * c) := by
  letI := D.fld
  obtain ⟨d, z, d0, d1, d2⟩ := hu
  refine ⟨d * b, fun j => z j * t, ?_, ?_, fun j => ⟨?_, ?_⟩⟩
  · rw [D.ofI_mul]
    grind
  · rw [Int.natAbs_mul]
    exact two_pow d1 hb2
  · show (z j * t).natAbs < _
    rw [Int.natAbs_mul]
    exact two_pow (d2 j).1 ht
  · show u j * c = D.ofI (z j * t) * (D.ofI (d * b))⁻¹
    rw [D.ofI_mul, D.ofI_mul, (d2 j).2, e]
    generalize D.ofI d = A at *
    generalize D.ofI b = B at *
    generalize D.ofI (z j) = X
    generalize D.ofI t = Y
    grind
theorem Ht.add {n m : Nat} {u v : Vec D.F} (hu : Ht D n u) (hv : Ht D m v) : letI := D.fld; Ht D (n + m + 1) (fun j => u j + v j) := by
  letI := D.fld
  obtain ⟨d, z, d0, d1, d2⟩ := hu
  obtain ⟨e, y, e0, e1, e2⟩ := hv
  refine ⟨d * e, fun j => z j * e + d * y j, ?_, ?_, fun j => ⟨?_, ?_⟩⟩
  · rw [D.ofI_mul]
    grind
  · rw [Int.natAbs_mul]
    exact Nat.lt_of_lt_of_le (two_pow d1 e1) (Nat.pow_le_pow_right (by decide) (by omega))
  · have h1 := two_pow (d2 j).1 e1
    have h2 := two_pow d1 (e2 j).1
    have h3 := Int.natAbs_add_le (z j * e) (d * y j)
    rw [Int.natAbs_mul, Int.natAbs_mul] at h3
    show (z j * e + d * y j).natAbs < _
    rw [Nat.pow_succ]
    omega
  · show u j + v j = D.ofI (z j * e + d * y j) * (D.ofI (d * e))⁻¹
    rw [D.ofI_add, D.ofI_mul, D.ofI_mul, D.ofI_mul, (d2 j).2, (e2 j).2]
    generalize D.ofI d = A at *
    generalize D.ofI e = B at *
    generalize D.ofI (z j) = X
    generalize D.ofI (y j) = Z
    grind
/-- a single number of such a row -/
theorem Ht.sm {n : Nat} {u : Vec D.F} (hf : IsF f) (hu : Ht D n u) (h7 : 7 ≤ n) (j : Nat) : (D.enc (u j)).1.natAbs < 2 ^ n ∧ (D.enc (u j)).2.natAbs < 2 ^ n := by
  letI := D.fld
  obtain ⟨d, z, d0, d1, d2⟩ := hu
  by_cases h0 : f = 0
  · subst h0
    rw [(d2 j).2, D.low _ _ d0]
    have hd : d ≠ 0 := fun e => d0 (by rw [e]; exact ofI_zero)
    have h := low0_le (t := z j) hd
    exact ⟨Nat.lt_of_le_of_lt h.1 (d2 j).1, Nat.lt_of_le_of_lt h.2 d1⟩
  · rcases hf with hf | ⟨p, hp, rfl⟩
    · exact absurd hf h0
    · have hb := prime_big p hp
      have h2 : (2 : Nat) ^ 7 ≤ 2 ^ n := Nat.pow_le_pow_right (by decide) h7
      rcases D.num (u j) with ⟨e, _⟩ | ⟨_, h3, h4, h5⟩
      · exact absurd e h0
      · have h2 : 128 ≤ 2 ^ n := h2
        rw [h3]
        omega
/-- a number as a division -/
theorem num_div (hf : IsF f) (x : D.F) : letI := D.fld; D.ofI (D.enc x).2 ≠ 0 ∧ x = D.ofI (D.enc x).1 * (D.ofI (D.enc x).2)⁻¹ := by
  letI := D.fld
  rcases D.num x with ⟨h0, h1, h2⟩ | ⟨h0, h1, h2, h3⟩
  · subst h0
    have hb : D.ofI (D.enc x).2 ≠ 0 := fun e => by
      have := (D.ofI0 _).mp e
      rw [if_pos rfl] at this
      omega
    refine ⟨hb, D.inj _ _ ?_⟩
    rw [D.low _ _ hb]
    have h2 : Nat.gcd (D.enc x).1.natAbs (D.enc x).2.natAbs = 1 := h2
    have hg : gOf (D.enc x).1 (D.enc x).2 = 1 := by
      unfold gOf
      rw [if_neg (by omega), h2]
      rfl
    show _ = (if (0 : Int) ≠ 0 then _ else ((D.enc x).1.fdiv (gOf (D.enc x).1 (D.enc x).2), (D.enc x).2.fdiv (gOf (D.enc x).1 (D.enc x).2)))
    rw [if_neg (by simp), hg, Int.fdiv_one, Int.fdiv_one]
  · have e : D.ofI (D.enc x).2 = 1 := by rw [h1]; exact D.ofI_one
    have e2 : x = D.ofI (D.enc x).1 := D.inj _ _ (by
      rw [D.encI, if_neg h0, Int.emod_eq_of_lt h2 h3]
      exact Prod.ext rfl h1)
    rw [e]
    refine ⟨one_ne, ?_⟩
    rw [← e2]
    grind
def Sz (D : Fd f) (n : Nat) (x : D.F) : Prop := (D.enc x).1.natAbs < 2 ^ n ∧ (D.enc x).2.natAbs < 2 ^ n
/-- a row of single numbers -/
theorem Ht.ofs (hf : IsF f) {k : Nat} : ∀ {l : List D.F}, (∀ x ∈ l, Sz D k x) → letI := D.fld; Ht D (k * l.length + 1) (vec l)
  | [], _ => by
    letI := D.fld
    refine ⟨1, fun _ => 0, ?_, (by show 1 < 2 ^ (k * 0 + 1); rw [Nat.mul_zero]; decide), fun j => ⟨Nat.two_pow_pos _, ?_⟩⟩
    · rw [D.ofI_one]
      exact one_ne
    · rw [ofI_zero]
      show (0 : D.F) = _
      grind
  | x :: l, h => by
    letI := D.fld
    obtain ⟨d, z, d0, d1, d2⟩ := Ht.ofs hf fun y hy => h y (List.mem_cons_of_mem _ hy)
    obtain ⟨s1, s2⟩ := h x (List.mem_cons_self ..)
    obtain ⟨b0, e⟩ := num_div (D := D) hf x
    have en : k * (x :: l).length + 1 = (k * l.length + 1) + k := by
      show k * (l.length + 1) + 1 = _
      rw [Nat.mul_succ]
      omega
    rw [en]
    refine ⟨d * (D.enc x).2, fun j => match j with | 0 => d * (D.enc x).1 | j + 1 => z j * (D.enc x).2, ?_, ?_, fun j => ?_⟩
    · rw [D.ofI_mul]
      generalize D.ofI d = A at *
      generalize D.ofI (D.enc x).2 = B at *
      grind
    · rw [Int.natAbs_mul]
      exact two_pow d1 s2
    · cases j with
      | zero =>
        refine ⟨?_, ?_⟩
        · show (d * (D.enc x).1).natAbs < _
          rw [Int.natAbs_mul]
          exact two_pow d1 s1
        · show x = D.ofI (d * (D.enc x).1) * (D.ofI (d * (D.enc x).2))⁻¹
          rw [D.ofI_mul, D.ofI_mul]
          generalize D.ofI d = A at *
          generalize D.ofI (D.enc x).2 = B at *
          generalize D.ofI (D.enc x).1 = C at *
          grind
      | succ j =>
        refine ⟨?_, ?_⟩
        · show (z j * (D.enc x).2).natAbs < _
          rw [Int.natAbs_mul]
          exact two_pow (d2 j).1 s2
        · show vec l j = D.ofI (z j * (D.enc x).2) * (D.ofI (d * (D.enc x).2))⁻¹
          rw [D.ofI_mul, D.ofI_mul, (d2 j).2]
          generalize D.ofI d = A at *
          generalize D.ofI (D.enc x).2 = B at *
          generalize D.ofI (z j) = C at *
          grind
end
end Lin
/-! How great the numbers of swept rows are in truth: a row that is swept at places is told by two sums of products of the first rows. -/
namespace Lin
open Lean.Grind
section
variable {R : Type} [CommRing R]
/-- the signed sum over the places: the row's number times what g tells of the other places -/
def ex (r : Nat → R) (g : List Nat → R) : List Nat → R
  | [] => 0
  | c :: cs => r c * g cs - ex r (fun ds => g (c :: ds)) cs
def dt : List (Nat → R) → List Nat → R
  | [] => fun cs => match cs with | [] => 1 | _ :: _ => 0
  | r :: rs => ex r (dt rs)
theorem ex_row (a b : Nat → R) (k : R) : ∀ (cs : List Nat) (g : List Nat → R), ex (fun j => a j + k * b j) g cs = ex a g cs + k * ex b g cs
  | [], g => by
    show (0 : R) = 0 + k * 0
    grind
  | c :: cs, g => by
    have := ex_row a b k cs fun ds => g (c :: ds)
    show (a c + k * b c) * g cs - ex (fun j => a j + k * b j) (fun ds => g (c :: ds)) cs = (a c * g cs - ex a (fun ds => g (c :: ds)) cs) + k * (b c * g cs - ex b (fun ds => g (c :: ds)) cs)
    grind
theorem ex_fun (r : Nat → R) (k : R) : ∀ (cs : List Nat) (g h : List Nat → R), ex r (fun ds => k * g ds - h ds) cs = k * ex r g cs - ex r h cs
  | [], g, h => by
    show (0 : R) = k * 0 - 0
    grind
  | c :: cs, g, h => by
    have := ex_fun r k cs (fun ds => g (c :: ds)) (fun ds => h (c :: ds))
    show r c * (k * g cs - h cs) - ex r (fun ds => k * g (c :: ds) - h (c :: ds)) cs = k * (r c * g cs - ex r (fun ds => g (c :: ds)) cs) - (r c * h cs - ex r (fun ds => h (c :: ds)) cs)
    grind
theorem ex_zero (r : Nat → R) : ∀ (cs : List Nat) (g : List Nat → R), (∀ ds, g ds = 0) → ex r g cs = 0
  | [], g, _ => rfl
  | c :: cs, g, h => by
    have e1 := ex_zero r cs (fun ds => g (c :: ds)) fun ds => h _
    have e2 := h cs
    show r c * g cs - ex r (fun ds => g (c :: ds)) cs = 0
    grind
theorem ex_step (a b : Nat → R) (c : Nat) (cs : List Nat) (g : List Nat → R) : ex a (ex b g) (c :: cs) = a c * ex b g cs - (b c * ex a g cs - ex a (ex b fun es => g (c :: es)) cs) := by
  have e := ex_fun a (b c) cs g (ex b fun es => g (c :: es))
  show a c * ex b g cs - ex a (fun ds => ex b g (c :: ds)) cs = _
  rw [← e]
  rfl
theorem ex_swap (a b : Nat → R) : ∀ (cs : List Nat) (g : List Nat → R), ex a (ex b g) cs = -(ex b (ex a g) cs)
  | [], g => by
    show (0 : R) = -0
    grind
  | c :: cs, g => by
    have := ex_swap a b cs fun es => g (c :: es)
    rw [ex_step, ex_step]
    grind
theorem ex_twice (a : Nat → R) : ∀ (cs : List Nat) (g : List Nat → R), ex a (ex a g) cs = 0
  | [], g => rfl
  | c :: cs, g => by
    have := ex_twice a cs fun es => g (c :: es)
    rw [ex_step]
    grind
theorem dt_dup {a : Nat → R} : ∀ {zs : List (Nat → R)}, a ∈ zs → ∀ cs, ex a (dt zs) cs = 0
  | [], h, _ => by cases h
  | b :: zs, h, cs => by
    by_cases e : a = b
    · subst e
      exact ex_twice a cs _
    · have h' : a ∈ zs := (List.mem_cons.mp h).resolve_left e
      show ex a (ex b (dt zs)) cs = 0
      rw [ex_swap, ex_zero b cs _ fun ds => dt_dup h' ds]
      grind
/-- a row that is nought at all the places but the first -/
theorem ex_none {r : Nat → R} : ∀ {ps : List Nat} (g : List Nat → R), (∀ p ∈ ps, r p = 0) → ex r g ps = 0
  | [], g, _ => rfl
  | p :: ps, g, h => by
    have e1 := ex_none (fun ds => g (p :: ds)) fun q hq => h q (List.mem_cons_of_mem _ hq)
    have e2 := h p (List.mem_cons_self ..)
    show r p * g ps - ex r (fun ds => g (p :: ds)) ps = 0
    grind
theorem ex_first {r : Nat → R} {ps : List Nat} (g : List Nat → R) (j : Nat) (h : ∀ p ∈ ps, r p = 0) : ex r g (j :: ps) = r j * g ps := by
  have e1 := ex_none (r := r) (fun ds => g (j :: ds)) h
  show r j * g ps - ex r (fun ds => g (j :: ds)) ps = _
  grind
end
section
variable {F : Type} [Field F]
theorem ex_span {zs : List (Vec F)} {v : Vec F} (h : Sp zs v) (cs : List Nat) : ex v (dt zs) cs = 0 := by
  induction h with
  | zero => exact ex_none _ fun _ _ => rfl
  | step c h _ ih =>
    rw [ex_row, ih, dt_dup h]
    grind
/-- the row o, swept at the places ps by what zs make -/
theorem swept_told {zs : List (Vec F)} {o x : Vec F} {k : F} {ps : List Nat} (h : Sp zs (fun j => o j + (-k) * x j)) (h0 : ∀ p ∈ ps, x p = 0) (j : Nat) : dt (o :: zs) (j :: ps) = k * x j * dt zs ps := by
  have e1 := ex_span h (j :: ps)
  rw [ex_row, ex_first _ j h0] at e1
  show ex o (dt zs) (j :: ps) = _
  grind
end
/-! ### whole numbers -/
section
open St
variable {f : Int} {D : Fd f}
theorem ofI_sub (s t : Int) : letI := D.fld; D.ofI (s - t) = D.ofI s - D.ofI t := by
  letI := D.fld
  rw [Int.sub_eq_add_neg, D.ofI_add, ofI_neg]
  grind
def im (D : Fd f) (z : Nat → Int) : Vec D.F := fun j => D.ofI (z j)
theorem ex_im (r : Nat → Int) : ∀ (cs : List Nat) (g : List Nat → Int), letI := D.fld; ex (im D r) (fun ds => D.ofI (g ds)) cs = D.ofI (ex r g cs)
  | [], g => ofI_zero.symm
  | c :: cs, g => by
    letI := D.fld
    have := ex_im r cs fun ds => g (c :: ds)
    show D.ofI (r c) * D.ofI (g cs) - ex (im D r) (fun ds => D.ofI (g (c :: ds))) cs = D.ofI (r c * g cs - ex r (fun ds => g (c :: ds)) cs)
    rw [ofI_sub, D.ofI_mul, this]
theorem dt_im : ∀ (zs : List (Nat → Int)) (cs : List Nat), letI := D.fld; dt (zs.map (im D)) cs = D.ofI (dt zs cs)
  | [], [] => D.ofI_one.symm
  | [], _ :: _ => ofI_zero.symm
  | z :: zs, cs => by
    letI := D.fld
    have e : dt (zs.map (im D)) = fun ds => D.ofI (dt zs ds) := funext fun ds => dt_im zs ds
    show ex (im D z) (dt (zs.map (im D))) cs = D.ofI (ex z (dt zs) cs)
    rw [e, ex_im]
theorem ex_abs {r : Nat → Int} {A : Nat} (hr : ∀ j, (r j).natAbs ≤ A) : ∀ (cs : List Nat) (g : List Nat → Int) (B : Nat), (∀ ds, ds.length + 1 = cs.length → (g ds).natAbs ≤ B) → (ex r g cs).natAbs ≤ cs.length * (A * B)
  | [], g, B, _ => Nat.le_of_eq (by show (0 : Int).natAbs = 0 * _; simp)
  | c :: cs, g, B, h => by
    have h1 := ex_abs hr cs (fun ds => g (c :: ds)) B fun ds hd => h _ (by show ds.length + 1 + 1 = cs.length + 1; omega)
    have h2 := h cs rfl
    have h3 : (r c * g cs).natAbs ≤ A * B := by
      rw [Int.natAbs_mul]
      exact Nat.mul_le_mul (hr c) h2
    show (r c * g cs - ex r (fun ds => g (c :: ds)) cs).natAbs ≤ (cs.length + 1) * (A * B)
    rw [Nat.succ_mul]
    omega
def fact : Nat → Nat
  | 0 => 1
  | n + 1 => (n + 1) * fact n
/-- rows, and how great their numbers are -/
def Bits : List (Nat → Int) → Nat → Prop
  | [], s => 0 ≤ s
  | z :: zs, s => ∃ a b, (∀ j, (z j).natAbs < 2 ^ a) ∧ Bits zs b ∧ a + b ≤ s
theorem dt_abs : ∀ {zs : List (Nat → Int)} {s : Nat} {cs : List Nat}, Bits zs s → cs.length = zs.length → (dt zs cs).natAbs ≤ fact zs.length * 2 ^ s
  | [], s, [], _, _ => by
    show 1 ≤ 1 * 2 ^ s
    have := Nat.two_pow_pos s
    omega
  | z :: zs, s, cs, ⟨a, b, ha, hb, hs⟩, hl => by
    have h := ex_abs (fun j => Nat.le_of_lt (ha j)) cs (dt zs) (fact zs.length * 2 ^ b) fun ds hd => dt_abs hb (by
      have hl : cs.length = zs.length + 1 := hl
      omega)
    have e : cs.length * (2 ^ a * (fact zs.length * 2 ^ b)) = fact (z :: zs).length * 2 ^ (a + b) := by
      rw [hl]
      show (zs.length + 1) * _ = ((zs.length + 1) * fact zs.length) * _
      rw [Nat.pow_add]
      ac_rfl
    rw [e] at h
    exact Nat.le_trans h (Nat.mul_le_mul_left _ (Nat.pow_le_pow_right (by decide) hs))
/-- a row swept by whole rows: all of it over one bottom, no greater than the rows together -/
theorem Ht.swept {zs : List (Nat → Int)} {o : Nat → Int} {d : Int} {x : Vec D.F} {ps : List Nat} {a b c m : Nat} (hd : letI := D.fld; D.ofI d ≠ 0) (h : letI := D.fld; Sp (zs.map (im D)) (fun j => im D o j + (-(D.ofI d)) * x j)) (h0 : letI := D.fld; ∀ p ∈ ps, x p = 0)
    (hn : letI := D.fld; D.ofI (dt zs ps) ≠ 0) (hl : ps.length = zs.length) (ho : ∀ j, (o j).natAbs < 2 ^ a) (hd2 : d.natAbs < 2 ^ a) (hz : Bits zs b) (hf : fact (zs.length + 1) < 2 ^ c) (hm : a + b + c ≤ m) : Ht D m x := by
  letI := D.fld
  have hb1 := dt_abs (cs := ps) hz hl
  have hk : fact zs.length ≤ fact (zs.length + 1) := by
    show _ ≤ (zs.length + 1) * fact zs.length
    rw [Nat.succ_mul]
    exact Nat.le_add_left _ _
  have e2 : 2 ^ (a + b + c) = 2 ^ c * 2 ^ (a + b) := by
    rw [Nat.pow_add, Nat.mul_comm]
  have up : 2 ^ (a + b + c) ≤ 2 ^ m := Nat.pow_le_pow_right (by decide) hm
  refine ⟨d * dt zs ps, fun j => dt (o :: zs) (j :: ps), ?_, ?_, fun j => ⟨?_, ?_⟩⟩
  · rw [D.ofI_mul]
    grind
  · rw [Int.natAbs_mul]
    refine Nat.lt_of_lt_of_le ?_ up
    have h1 : d.natAbs * (dt zs ps).natAbs ≤ 2 ^ a * (fact zs.length * 2 ^ b) := Nat.mul_le_mul (Nat.le_of_lt hd2) hb1
    have h2 : 2 ^ a * (fact zs.length * 2 ^ b) = fact zs.length * 2 ^ (a + b) := by
      rw [Nat.pow_add]
      ac_rfl
    rw [h2] at h1
    rw [e2]
    refine Nat.lt_of_le_of_lt h1 ?_
    exact Nat.mul_lt_mul_of_pos_right (Nat.lt_of_le_of_lt hk hf) (Nat.two_pow_pos _)
  · have h1 := dt_abs (zs := o :: zs) (s := a + b) (cs := j :: ps) ⟨a, b, ho, hz, Nat.le_refl _⟩ (by show ps.length + 1 = zs.length + 1; omega)
    refine Nat.lt_of_lt_of_le ?_ up
    rw [e2]
    refine Nat.lt_of_le_of_lt h1 ?_
    exact Nat.mul_lt_mul_of_pos_right hf (Nat.two_pow_pos _)
  · have h1 := swept_told (o := im D o) (x := x) (k := D.ofI d) h h0 j
    have h2 := dt_im (D := D) (o :: zs) (j :: ps)
    have h3 := dt_im (D := D) zs ps
    have h2 : dt (im D o :: zs.map (im D)) (j :: ps) = D.ofI (dt (o :: zs) (j :: ps)) := h2
    rw [h2, h3] at h1
    show x j = D.ofI (dt (o :: zs) (j :: ps)) * (D.ofI (d * dt zs ps))⁻¹
    rw [h1, D.ofI_mul]
    generalize D.ofI (dt zs ps) = A at *
    generalize D.ofI d = B at *
    grind
end
end Lin
/-! Heights along the program's steps. -/
namespace Lin
open Lean.Grind St
section
variable {f : Int} {D : Fd f}
theorem fact_le {n m : Nat} (h : n ≤ m) : fact n ≤ fact m := by
  induction h with
  | refl => exact Nat.le_refl _
  | step _ ih =>
    rename_i k _
    refine Nat.le_trans ih ?_
    show fact k ≤ (k + 1) * fact k
    rw [Nat.succ_mul]
    exact Nat.le_add_left _ _
/-- x is the first row o / d, swept by what zs make, nought at ps -/
def Org (D : Fd f) (zs : List (Nat → Int)) (ps : List Nat) (x : Vec D.F) (a : Nat) : Prop := letI := D.fld
  ∃ (o : Nat → Int) (d : Int), D.ofI d ≠ 0 ∧ Sp (zs.map (im D)) (fun j => im D o j + (-(D.ofI d)) * x j) ∧ (∀ p ∈ ps, x p = 0) ∧ (∀ j, (o j).natAbs < 2 ^ a) ∧ d.natAbs < 2 ^ a
def OrgL (D : Fd f) (zs : List (Nat → Int)) (ps : List Nat) : List (Vec D.F) → Nat → Prop
  | [], _ => True
  | x :: xs, s => ∃ a b, Org D zs ps x a ∧ OrgL D zs ps xs b ∧ a + b ≤ s
theorem OrgL.mem {zs : List (Nat → Int)} {ps : List Nat} {x : Vec D.F} : ∀ {xs : List (Vec D.F)} {s : Nat}, OrgL D zs ps xs s → x ∈ xs → ∃ a, a ≤ s ∧ Org D zs ps x a
  | [], _, _, h => by cases h
  | y :: xs, s, ⟨a, b, ha, hb, hs⟩, h => by
    rcases List.mem_cons.mp h with rfl | h
    · exact ⟨a, by omega, ha⟩
    · obtain ⟨c, hc, k⟩ := OrgL.mem hb h
      exact ⟨c, by omega, k⟩
theorem OrgL.pick {zs : List (Nat → Int)} {ps : List Nat} {x : Vec D.F} : ∀ {xs : List (Vec D.F)} {s i : Nat}, OrgL D zs ps xs s → xs[i]? = some x → ∃ a b, Org D zs ps x a ∧ OrgL D zs ps (xs.take i ++ xs.drop (i + 1)) b ∧ a + b ≤ s
  | [], _, _, _, h => by simp at h
  | y :: xs, s, 0, ⟨a, b, ha, hb, hs⟩, h => by
    have e : y = x := by simpa using h
    subst e
    exact ⟨a, b, ha, hb, hs⟩
  | y :: xs, s, i + 1, ⟨a, b, ha, hb, hs⟩, h => by
    obtain ⟨a', b', h1, h2, h3⟩ := OrgL.pick (i := i) hb (by simpa using h)
    exact ⟨a', a + b', h1, ⟨a, b', ha, h2, Nat.le_refl _⟩, by omega⟩
theorem OrgL.map {zs ys : List (Nat → Int)} {ps qs : List Nat} {g : Vec D.F → Vec D.F} : ∀ {xs : List (Vec D.F)} {s : Nat}, (∀ x ∈ xs, ∀ a, Org D zs ps x a → Org D ys qs (g x) a) → OrgL D zs ps xs s → OrgL D ys qs (xs.map g) s
  | [], _, _, _ => True.intro
  | x :: xs, s, h, ⟨a, b, ha, hb, hs⟩ => ⟨a, b, h x (List.mem_cons_self ..) a ha, OrgL.map (fun y hy => h y (List.mem_cons_of_mem _ hy)) hb, hs⟩
/-- rows on their way, none of their numbers ever above 2 ^ m -/
def Lv (D : Fd f) (m : Nat) (left : List (Vec D.F)) : Prop := letI := D.fld
  ∃ (zs : List (Nat → Int)) (ps : List Nat) (b s c : Nat), Bits zs b ∧ OrgL D zs ps left s ∧ D.ofI (dt zs ps) ≠ 0 ∧ ps.length = zs.length ∧ fact (zs.length + left.length) < 2 ^ c ∧ s + b + c ≤ m
theorem Lv.ht {m : Nat} {left : List (Vec D.F)} {x : Vec D.F} (h : Lv D m left) (hx : x ∈ left) : Ht D m x := by
  letI := D.fld
  obtain ⟨zs, ps, b, s, c, hz, ho, hn, hl, hf, hm⟩ := h
  obtain ⟨a, ha, o, d, h1, h2, h3, h4, h5⟩ := ho.mem hx
  have hp : 0 < left.length := List.length_pos_of_mem hx
  exact Ht.swept h1 h2 h3 hn hl h4 h5 hz (Nat.lt_of_le_of_lt (fact_le (by omega)) hf) (by omega)
theorem Lv.step {m i p : Nat} {left : List (Vec D.F)} {x : Vec D.F} (h : Lv D m left) (hi : left[i]? = some x) (hp : letI := D.fld; x p ≠ 0) :
    letI := D.fld; Lv D m ((left.take i ++ left.drop (i + 1)).map fun y => fun j => y j + (-(y p)) * ((x p)⁻¹ * x j)) := by
  letI := D.fld
  obtain ⟨zs, ps, b, s, c, hz, ho, hn, hl, hf, hm⟩ := h
  obtain ⟨a, b', ⟨o, d, h1, h2, h3, h4, h5⟩, hr, hs⟩ := ho.pick hi
  have hlt := (List.getElem?_eq_some_iff.mp hi).1
  have e1 : D.ofI (dt (o :: zs) (p :: ps)) = D.ofI d * x p * D.ofI (dt zs ps) := by
    rw [← dt_im (D := D) (o :: zs) (p :: ps), ← dt_im (D := D) zs ps]
    exact swept_told h2 h3 p
  have up : ∀ {v : Vec D.F}, Sp (zs.map (im D)) v → Sp ((o :: zs).map (im D)) v := fun h => h.mono fun y hy => List.mem_cons_of_mem _ hy
  have hx : Sp ((o :: zs).map (im D)) x := by
    have g := up h2
    have g0 : Sp ((o :: zs).map (im D)) (im D o) := .gen (List.mem_cons_self ..)
    exact ((g0.lin (-1) g).mul (D.ofI d)⁻¹).cast fun j => by
      generalize D.ofI d = A at *
      grind
  refine ⟨o :: zs, p :: ps, a + b, b', c, ⟨a, b, h4, hz, Nat.le_refl _⟩, OrgL.map (fun y _ a' hy => ?_) hr, ?_, by show ps.length + 1 = zs.length + 1; omega, ?_, by omega⟩
  · obtain ⟨o', d', g1, g2, g3, g4, g5⟩ := hy
    refine ⟨o', d', g1, ?_, fun q hq => ?_, g4, g5⟩
    · exact ((up g2).lin (D.ofI d' * y p * (x p)⁻¹) hx).cast fun j => by
        generalize D.ofI d' = A at *
        generalize im D o' j = B at *
        grind
    · rcases List.mem_cons.mp hq with rfl | hq
      · show y q + (-(y q)) * ((x q)⁻¹ * x q) = 0
        grind
      · have e2 := g3 q hq
        have e3 := h3 q hq
        show y q + (-(y p)) * ((x p)⁻¹ * x q) = 0
        rw [e2, e3]
        grind
  · rw [e1]
    generalize D.ofI (dt zs ps) = A at *
    generalize D.ofI d = B at *
    grind
  · have e : (o :: zs).length + ((left.take i ++ left.drop (i + 1)).map fun y => fun j => y j + (-(y p)) * ((x p)⁻¹ * x j)).length = zs.length + left.length := by
      rw [List.length_map, List.length_append, List.length_take, List.length_drop]
      show zs.length + 1 + _ = _
      omega
    rw [e]
    exact hf
/-- first rows, each over its own bottom -/
theorem Lv.start {c m : Nat} {left : List (Vec D.F)} {s : Nat} (h : OrgL D [] [] left s) (hf : fact left.length < 2 ^ c) (hm : s + c ≤ m) : Lv D m left := by
  letI := D.fld
  refine ⟨[], [], 0, s, c, Nat.le_refl _, h, ?_, rfl, ?_, by omega⟩
  · show D.ofI 1 ≠ 0
    rw [D.ofI_one]
    exact one_ne
  · show fact (0 + left.length) < _
    rw [Nat.zero_add]
    exact hf
theorem Org.start {a : Nat} {x : Vec D.F} (h : Ht D a x) : Org D [] [] x a := by
  letI := D.fld
  obtain ⟨d, z, h0, h1, h2⟩ := h
  refine ⟨z, d, h0, ?_, (fun p hp => by cases hp), fun j => (h2 j).1, h1⟩
  exact Sp.zero.cast fun j => by
    have e := (h2 j).2
    show 0 = D.ofI (z j) + (-(D.ofI d)) * x j
    rw [e]
    generalize D.ofI d = A at *
    generalize D.ofI (z j) = B at *
    grind
/-! ### rows that are ready: all of them over one bottom -/
def HtC (D : Fd f) (n : Nat) (rs : List (Vec D.F)) : Prop := letI := D.fld
  ∃ d : Int, D.ofI d ≠ 0 ∧ d.natAbs < 2 ^ n ∧ ∀ r ∈ rs, ∃ z : Nat → Int, ∀ j, (z j).natAbs < 2 ^ n ∧ r j = D.ofI (z j) * (D.ofI d)⁻¹
theorem HtC.ht {n : Nat} {rs : List (Vec D.F)} {r : Vec D.F} (h : HtC D n rs) (hr : r ∈ rs) : Ht D n r := by
  obtain ⟨d, h0, h1, h2⟩ := h
  obtain ⟨z, hz⟩ := h2 r hr
  exact ⟨d, z, h0, h1, hz⟩
/-- a row that is 1 at one of the places and nought at the others -/
theorem ex_unit {R : Type} [CommRing R] {r : Nat → R} {p : Nat} : ∀ {ps : List Nat} (g : List Nat → R), ps.Nodup → p ∈ ps → r p = 1 → (∀ q ∈ ps, q ≠ p → r q = 0) → ex r g ps = g (ps.erase p) ∨ ex r g ps = -(g (ps.erase p))
  | [], _, _, h, _, _ => by cases h
  | q :: ps, g, hn, hp, h1, h0 => by
    have hn' := List.nodup_cons.mp hn
    by_cases e : q = p
    · subst e
      refine .inl ?_
      have e2 := ex_none (r := r) (fun ds => g (q :: ds)) fun x hx => h0 x (List.mem_cons_of_mem _ hx) fun z => hn'.1 (z ▸ hx)
      rw [List.erase_cons_head]
      show r q * g ps - ex r (fun ds => g (q :: ds)) ps = g ps
      grind
    · have hp' : p ∈ ps := (List.mem_cons.mp hp).resolve_left fun z => e z.symm
      have e2 := h0 q (List.mem_cons_self ..) e
      have ee : (q :: ps).erase p = q :: ps.erase p := List.erase_cons_tail (by simpa using e)
      rw [ee]
      have ih := ex_unit (ps := ps) (fun ds => g (q :: ds)) hn'.2 hp' h1 fun x hx => h0 x (List.mem_cons_of_mem _ hx)
      show r q * g ps - ex r (fun ds => g (q :: ds)) ps = g (q :: ps.erase p) ∨ r q * g ps - ex r (fun ds => g (q :: ds)) ps = -(g (q :: ps.erase p))
      rcases ih with ih | ih
      · exact .inr (by grind)
      · exact .inl (by grind)
theorem HtC.ready {zs : List (Nat → Int)} {ps : List Nat} {rs : List (Vec D.F)} {b c n : Nat} (hz : Bits zs b) (hl : ps.length = zs.length) (hnd : ps.Nodup) (hn : letI := D.fld; D.ofI (dt zs ps) ≠ 0)
    (h : letI := D.fld; ∀ r ∈ rs, Sp (zs.map (im D)) r ∧ ∃ p ∈ ps, r p = 1 ∧ ∀ q ∈ ps, q ≠ p → r q = 0) (hf : fact zs.length < 2 ^ c) (hm : b + c ≤ n) : HtC D n rs := by
  letI := D.fld
  have up : 2 ^ (c + b) ≤ 2 ^ n := Nat.pow_le_pow_right (by decide) (by omega)
  have big : ∀ {qs : List Nat}, qs.length = zs.length → (dt zs qs).natAbs < 2 ^ n := fun h => by
    refine Nat.lt_of_lt_of_le (Nat.lt_of_le_of_lt (dt_abs hz h) ?_) up
    rw [Nat.pow_add]
    exact Nat.mul_lt_mul_of_pos_right hf (Nat.two_pow_pos _)
  refine ⟨dt zs ps, hn, big hl, fun r hr => ?_⟩
  obtain ⟨hs, p, hp, h1, h0⟩ := h r hr
  have key : ∀ j, ∃ z : Int, z.natAbs < 2 ^ n ∧ r j = D.ofI z * (D.ofI (dt zs ps))⁻¹ := fun j => by
    have e1 := ex_span hs (j :: ps)
    have e2 : r j * dt (zs.map (im D)) ps - ex r (fun ds => dt (zs.map (im D)) (j :: ds)) ps = 0 := e1
    have hq : (j :: ps.erase p).length = zs.length := by
      have := List.length_erase_of_mem hp
      have : 0 < ps.length := List.length_pos_of_mem hp
      show (ps.erase p).length + 1 = zs.length
      omega
    rcases ex_unit (fun ds => dt (zs.map (im D)) (j :: ds)) hnd hp h1 h0 with e3 | e3
    · refine ⟨dt zs (j :: ps.erase p), big hq, ?_⟩
      rw [e3, dt_im, dt_im] at e2
      generalize D.ofI (dt zs ps) = A at *
      generalize D.ofI (dt zs (j :: ps.erase p)) = B at *
      grind
    · refine ⟨-(dt zs (j :: ps.erase p)), by rw [Int.natAbs_neg]; exact big hq, ?_⟩
      rw [e3, dt_im, dt_im] at e2
      rw [ofI_neg]
      generalize D.ofI (dt zs ps) = A at *
      generalize D.ofI (dt zs (j :: ps.erase p)) = B at *
      grind
  exact ⟨fun j => (key j).choose, fun j => (key j).choose_spec⟩
end
end Lin
/-! Heights of the whole reducing, over lists. -/
namespace Lin
open Lean.Grind St
section
variable {f : Int} {D : Fd f}
theorem steps_none {F : Type} [Field F] [DecidableEq F] {n p : Nat} {left : List (List F)} (h : fst left p = none) : steps (List.range' p (n + 1)) left = steps (List.range' (p + 1) n) left := by
  show steps (p :: List.range' (p + 1) n) left = _
  conv => lhs; unfold steps
  rw [h]
theorem steps_some {F : Type} [Field F] [DecidableEq F] {n p i : Nat} {left : List (List F)} {r : List F} (h : fst left p = some i) (hr : left[i]? = some r) :
    steps (List.range' p (n + 1)) left = (p, scl r p) :: steps (List.range' (p + 1) n) ((cut left i).map fun x => swp x (scl r p) p) := by
  show steps (p :: List.range' (p + 1) n) left = _
  rw [← getD_of hr]
  conv => lhs; unfold steps
  rw [h]
theorem left_vec {w i p : Nat} {left : List (List D.F)} {r : List D.F} (L : letI := D.fld; Left w p left) (hr : left[i]? = some r) :
    letI := D.fld; letI := D.dec; ((cut left i).map fun x => swp x (scl r p) p).map vec = ((left.map vec).take i ++ (left.map vec).drop (i + 1)).map fun y => fun j => y j + (-(y p)) * ((vec r p)⁻¹ * vec r j) := by
  letI := D.fld
  letI := D.dec
  rw [← List.map_take, ← List.map_drop, ← List.map_append, List.map_map, List.map_map]
  refine List.map_congr_left fun x hx => funext fun j => ?_
  have hx : x ∈ cut left i := hx
  have l1 := L.len x ((cut_mem hr).mpr (.inr hx))
  have l2 := L.len r (List.mem_of_getElem? hr)
  show vec (swp x (scl r p) p) j = vec x j + (-(vec x p)) * ((vec r p)⁻¹ * vec r j)
  rw [swp_vec (by rw [scl_len]; omega), scl_vec]
theorem lv_next {m w i p : Nat} {left : List (List D.F)} {r : List D.F} (L : letI := D.fld; Left w p left) (h : letI := D.fld; Lv D m (left.map vec)) (hr : left[i]? = some r) (hne : letI := D.fld; vec r p ≠ 0) :
    letI := D.fld; letI := D.dec; Lv D m (((cut left i).map fun x => swp x (scl r p) p).map vec) := by
  letI := D.fld
  letI := D.dec
  rw [left_vec L hr]
  exact h.step (by rw [List.getElem?_map, hr]; rfl) hne
theorem scl_ht {m p : Nat} {r : List D.F} (h : letI := D.fld; Ht D m (vec r)) (hne : letI := D.fld; vec r p ≠ 0) : letI := D.fld; letI := D.dec; Ht D m (vec (scl r p)) := by
  letI := D.fld
  letI := D.dec
  have e : vec (scl r p) = fun j => (vec r p)⁻¹ * vec r j := funext fun j => scl_vec j
  rw [e]
  exact h.scl hne
/-- what the steps end in: whole rows that make all of them, and their places -/
theorem steps_end {w c : Nat} : letI := D.fld; letI := D.dec; ∀ (n p : Nat) (left : List (List D.F)) (zs : List (Nat → Int)) (ps : List Nat) (b s : Nat), p + n = w → Left w p left → Bits zs b → OrgL D zs ps (left.map vec) s → D.ofI (dt zs ps) ≠ 0 → ps.length = zs.length → fact (zs.length + left.length) < 2 ^ c →
    ∃ (zs' : List (Nat → Int)) (ps' : List Nat) (b' : Nat), Bits zs' b' ∧ b' ≤ b + s ∧ D.ofI (dt zs' ps') ≠ 0 ∧ ps'.length = zs'.length ∧ fact zs'.length < 2 ^ c ∧ ps' = ((steps (List.range' p n) left).map (·.1)).reverse ++ ps ∧ (∀ z ∈ zs, z ∈ zs') ∧ ∀ a ∈ steps (List.range' p n) left, Sp (zs'.map (im D)) (vec a.2) := by
  letI := D.fld
  letI := D.dec
  intro n
  induction n with
  | zero =>
    intro p left zs ps b s hw L hz ho hn hl hf
    exact ⟨zs, ps, b, hz, by omega, hn, hl, Nat.lt_of_le_of_lt (fact_le (by omega)) hf, rfl, fun z h => h, (fun a h => by cases h)⟩
  | succ n ih =>
    intro p left zs ps b s hw L hz ho hn hl hf
    cases h : fst left p with
    | none =>
      rw [steps_none h]
      exact ih (p + 1) left zs ps b s (by omega) (left_none L h) hz ho hn hl hf
    | some i =>
      obtain ⟨r, hr, hne⟩ := fst_some h
      rw [steps_some h hr]
      show ∃ (zs' : List (Nat → Int)) (ps' : List Nat) (b' : Nat), Bits zs' b' ∧ b' ≤ b + s ∧ D.ofI (dt zs' ps') ≠ 0 ∧ ps'.length = zs'.length ∧ fact zs'.length < 2 ^ c ∧ ps' = (((p, scl r p) :: steps (List.range' (p + 1) n) ((cut left i).map fun x => swp x (scl r p) p)).map (·.1)).reverse ++ ps ∧ (∀ z ∈ zs, z ∈ zs') ∧
        ∀ a ∈ (p, scl r p) :: steps (List.range' (p + 1) n) ((cut left i).map fun x => swp x (scl r p) p), Sp (zs'.map (im D)) (vec a.2)
      obtain ⟨a, b', ⟨o, d, h1, h2, h3, h4, h5⟩, hrr, hs⟩ := ho.pick (x := vec r) (i := i) (by rw [List.getElem?_map, hr]; rfl)
      have up : ∀ {v : Vec D.F}, Sp (zs.map (im D)) v → Sp ((o :: zs).map (im D)) v := fun h => h.mono fun y hy => List.mem_cons_of_mem _ hy
      have hx : Sp ((o :: zs).map (im D)) (vec r) := by
        have g := up h2
        have g0 : Sp ((o :: zs).map (im D)) (im D o) := .gen (List.mem_cons_self ..)
        exact ((g0.lin (-1) g).mul (D.ofI d)⁻¹).cast fun j => by
          generalize D.ofI d = A at *
          grind
      have e1 : D.ofI (dt (o :: zs) (p :: ps)) = D.ofI d * vec r p * D.ofI (dt zs ps) := by
        rw [← dt_im (D := D) (o :: zs) (p :: ps), ← dt_im (D := D) zs ps]
        exact swept_told h2 h3 p
      have hn' : D.ofI (dt (o :: zs) (p :: ps)) ≠ 0 := by
        rw [e1]
        generalize D.ofI (dt zs ps) = A at *
        generalize D.ofI d = B at *
        grind
      have ho' : OrgL D (o :: zs) (p :: ps) (((cut left i).map fun x => swp x (scl r p) p).map vec) b' := by
        rw [left_vec L hr]
        refine OrgL.map (fun y _ a' hy => ?_) hrr
        obtain ⟨o', d', g1, g2, g3, g4, g5⟩ := hy
        refine ⟨o', d', g1, ?_, fun q hq => ?_, g4, g5⟩
        · exact ((up g2).lin (D.ofI d' * y p * (vec r p)⁻¹) hx).cast fun j => by
            generalize D.ofI d' = A at *
            generalize im D o' j = B at *
            grind
        · rcases List.mem_cons.mp hq with rfl | hq
          · show y q + (-(y q)) * ((vec r q)⁻¹ * vec r q) = 0
            grind
          · have e2 := g3 q hq
            have e3 := h3 q hq
            show y q + (-(y p)) * ((vec r p)⁻¹ * vec r q) = 0
            rw [e2, e3]
            grind
      have lc := cut_len hr
      obtain ⟨zs', ps', b2, k1, k2, k3, k4, k5, k6, k7, k8⟩ := ih (p + 1) _ (o :: zs) (p :: ps) (a + b) b' (by omega) (left_step L hr hne) ⟨a, b, h4, hz, Nat.le_refl _⟩ ho' hn' (by show ps.length + 1 = zs.length + 1; omega) (by
        rw [List.length_map]
        have e : (o :: zs).length + (cut left i).length = zs.length + left.length := by
          show zs.length + 1 + _ = _
          omega
        rw [e]
        exact hf)
      refine ⟨zs', ps', b2, k1, by omega, k3, k4, k5, ?_, fun z hz => k7 z (List.mem_cons_of_mem _ hz), fun x hx2 => ?_⟩
      · rw [k6, List.map_cons, List.reverse_cons, List.append_assoc]
        rfl
      · rcases List.mem_cons.mp hx2 with rfl | hx2
        · have hx := hx.mono (ss := zs'.map (im D)) fun y hy => by
            obtain ⟨z, hz, rfl⟩ := List.mem_map.mp hy
            exact List.mem_map_of_mem (k7 z hz)
          exact (hx.mul (vec r p)⁻¹).cast fun j => (scl_vec j).symm
        · exact k8 x hx2
theorem steps_ht {m w : Nat} : letI := D.fld; letI := D.dec; ∀ (n p : Nat) (left : List (List D.F)), p + n = w → Left w p left → Lv D m (left.map vec) → ∀ a ∈ steps (List.range' p n) left, Ht D m (vec a.2) := by
  letI := D.fld
  letI := D.dec
  intro n
  induction n with
  | zero => intro p left _ _ _ a ha; cases ha
  | succ n ih =>
    intro p left hw L h a ha
    cases hh : fst left p with
    | none =>
      rw [steps_none hh] at ha
      exact ih (p + 1) left (by omega) (left_none L hh) h a ha
    | some i =>
      obtain ⟨r, hr, hne⟩ := fst_some hh
      rw [steps_some hh hr] at ha
      rcases List.mem_cons.mp ha with rfl | ha
      · exact scl_ht (h.ht (List.mem_map_of_mem (List.mem_of_getElem? hr))) hne
      · exact ih (p + 1) _ (by omega) (left_step L hr hne) (lv_next L h hr hne) a ha
/-- swept by rows that are ready -/
theorem clean_ht {w m n : Nat} {row : List D.F} {rs : List (Vec D.F)} (C : HtC D n rs) (hrow : row.length = w) : letI := D.fld; letI := D.dec; Ht D m (vec row) → ∀ {B : List (Ll D.F)}, RedU (vecs B) → (∀ d ∈ B, d.2.length = w) → (∀ d ∈ B, vec d.2 ∈ rs) → Ht D (m + n + B.length) (vec (clean row B)) := by
  letI := D.fld
  letI := D.dec
  intro hr B R hl hm
  obtain ⟨e, e0, e1, e2⟩ := C
  obtain ⟨d, z, d0, d1, d2⟩ := hr
  have key : ∀ {B : List (Ll D.F)}, RedU (vecs B) → (∀ d ∈ B, d.2.length = w) → (∀ d ∈ B, vec d.2 ∈ rs) → ∃ y : Nat → Int, ∀ j, (y j).natAbs < 2 ^ (m + n + B.length) ∧ vec (clean row B) j = D.ofI (y j) * (D.ofI (d * e))⁻¹ := by
    intro B
    induction B with
    | nil =>
      intro _ _ _
      refine ⟨fun j => z j * e, fun j => ⟨?_, ?_⟩⟩
      · show (z j * e).natAbs < 2 ^ (m + n)
        rw [Int.natAbs_mul]
        exact two_pow (d2 j).1 e1
      · show vec row j = D.ofI (z j * e) * (D.ofI (d * e))⁻¹
        rw [(d2 j).2, D.ofI_mul, D.ofI_mul]
        generalize D.ofI d = A at *
        generalize D.ofI e = B at *
        generalize D.ofI (z j) = X
        grind
    | cons a B ih =>
      intro R hl hm
      have hla := hl a (List.mem_cons_self ..)
      obtain ⟨y, hy⟩ := ih R.tail (fun x hx => hl x (List.mem_cons_of_mem _ hx)) fun x hx => hm x (List.mem_cons_of_mem _ hx)
      obtain ⟨c1, c2, _⟩ := clean_ok hrow R.tail fun x hx => hl x (List.mem_cons_of_mem _ hx)
      obtain ⟨u, hu⟩ := e2 (vec a.2) (hm a (List.mem_cons_self ..))
      have ep : vec (clean row B) a.1 = vec row a.1 := c2 a.1 fun x hx => by
        have h : a.1 ≠ x.1 := (List.pairwise_cons.mp R.dist).1 (x.1, vec x.2) (List.mem_map_of_mem hx)
        exact R.alone (x.1, vec x.2) (List.mem_cons_of_mem _ (List.mem_map_of_mem hx)) (a.1, vec a.2) (List.mem_cons_self ..) fun z => h z.symm
      have el : 2 ^ (m + n) ≤ 2 ^ (m + n + B.length) := Nat.pow_le_pow_right (by decide) (by omega)
      refine ⟨fun j => y j + -(z a.1 * u j), fun j => ⟨?_, ?_⟩⟩
      · have h1 := (hy j).1
        have h2 : (z a.1 * u j).natAbs < 2 ^ (m + n) := by
          rw [Int.natAbs_mul]
          exact two_pow (d2 a.1).1 (hu j).1
        show (y j + -(z a.1 * u j)).natAbs < 2 ^ (m + n + (B.length + 1))
        have h3 := Int.natAbs_add_le (y j) (-(z a.1 * u j))
        rw [Int.natAbs_neg] at h3
        rw [← Nat.add_assoc, Nat.pow_succ]
        omega
      · have e3 : vec (clean row (a :: B)) j = vec (clean row B) j + (-(vec (clean row B) a.1)) * vec a.2 j := by
          show vec (swp (clean row B) a.2 a.1) j = _
          rw [swp_vec (by omega)]
        rw [e3, ep, (hy j).2, (d2 a.1).2, (hu j).2, D.ofI_add, ofI_neg, D.ofI_mul, D.ofI_mul]
        generalize D.ofI d = A at *
        generalize D.ofI e = E at *
        generalize D.ofI (z a.1) = X at *
        generalize D.ofI (u j) = Y at *
        generalize D.ofI (y j) = Z at *
        grind
  obtain ⟨y, hy⟩ := key R hl hm
  refine ⟨d * e, y, ?_, ?_, hy⟩
  · rw [D.ofI_mul]
    grind
  · rw [Int.natAbs_mul]
    exact Nat.lt_of_lt_of_le (two_pow d1 e1) (Nat.pow_le_pow_right (by decide) (by omega))
/-- any last part of the steps, made ready -/
theorem back_htc {w m s c : Nat} {rows : List (List D.F)} : letI := D.fld; letI := D.dec; (∀ r ∈ rows, r.length = w) → OrgL D [] [] (rows.map vec) s → fact rows.length < 2 ^ c → s + c ≤ m →
    ∀ A B : List (Ll D.F), steps (List.range' 0 w) rows = A ++ B → HtC D m (rowsOf (vecs (back B))) := by
  letI := D.fld
  letI := D.dec
  intro hl ho hf hm A B e
  obtain ⟨zs, ps, b, k1, k2, k3, k4, k5, k6, _, k8⟩ := steps_end (c := c) w 0 rows [] [] 0 s (Nat.zero_add w) (left_start hl) (Nat.le_refl _) ho (by show D.ofI 1 ≠ 0; rw [D.ofI_one]; exact one_ne) rfl (by show fact (0 + rows.length) < _; rw [Nat.zero_add]; exact hf)
  obtain ⟨E, hw, _, _, _⟩ := steps_ok w 0 rows (Nat.zero_add w) (left_start hl)
  rw [e] at k6 k8 E hw
  rw [List.append_nil] at k6
  have EB : Ech (vecs B) := by
    have h := E.up
    rw [show vecs (A ++ B) = vecs A ++ vecs B from List.map_append ..] at h
    refine ⟨(List.pairwise_append.mp h).2.1, fun a ha => E.one a ?_, fun a ha => E.ahead a ?_⟩ <;> exact (by rw [show vecs (A ++ B) = vecs A ++ vecs B from List.map_append ..]; exact List.mem_append_right _ ha)
  obtain ⟨R, hm2, hlen, g1, g2⟩ := back_ok EB fun a ha => (hw a (List.mem_append_right _ ha)).2.2
  have nd : ps.Nodup := by
    rw [k6]
    refine List.pairwise_reverse.mpr ?_
    have h := E.up
    rw [List.pairwise_map] at h ⊢
    exact h.imp fun h => by
      have h : _ < _ := h
      omega
  refine HtC.ready (b := b) (c := c) k1 k4 nd k3 (fun r hr => ?_) k5 (by omega)
  obtain ⟨y, hy, rfl⟩ := List.mem_map.mp hr
  obtain ⟨x, hx, rfl⟩ := List.mem_map.mp hy
  have hx1 : x.1 ∈ B.map (·.1) := by
    rw [← hm2]
    exact List.mem_map_of_mem hx
  refine ⟨(g1 x hx).trans fun v hv => ?_, x.1, ?_, R.one (x.1, vec x.2) hy, fun q hq ne => ?_⟩
  · obtain ⟨u, hu, rfl⟩ := List.mem_map.mp hv
    obtain ⟨t, ht, rfl⟩ := List.mem_map.mp hu
    exact k8 t (List.mem_append_right _ ht)
  · rw [k6, List.mem_reverse, List.map_append]
    exact List.mem_append_right _ hx1
  · rw [k6, List.mem_reverse, List.map_append] at hq
    rcases List.mem_append.mp hq with hq | hq
    · obtain ⟨a, ha, rfl⟩ := List.mem_map.mp hq
      obtain ⟨t, ht, e2⟩ := List.mem_map.mp hx1
      have h := E.up
      rw [List.pairwise_map] at h
      have lt : a.1 < t.1 := (List.pairwise_append.mp h).2.2 a ha t ht
      exact R.ahead (x.1, vec x.2) hy a.1 (by show a.1 < x.1; omega)
    · rw [← hm2] at hq
      obtain ⟨t, ht, rfl⟩ := List.mem_map.mp hq
      exact R.alone (x.1, vec x.2) hy (t.1, vec t.2) (List.mem_map_of_mem ht) fun z => ne z.symm
end
end Lin
/-! Heights of the law's own reducing. -/
namespace Lin
open Lean.Grind St
theorem clean_diff {F : Type} [Field F] [DecidableEq F] {w : Nat} {row : List F} (hrow : row.length = w) : ∀ {D : List (Ll F)}, (∀ d ∈ D, d.2.length = w) → (clean row D).length = w ∧ Sp (rowsOf (vecs D)) (fun j => vec row j + (-1) * vec (clean row D) j)
  | [], _ => ⟨hrow, Sp.zero.cast fun j => by
      show 0 = vec row j + (-1) * vec row j
      grind⟩
  | d :: D, hl => by
    obtain ⟨h1, h2⟩ := clean_diff hrow (D := D) fun e he => hl e (List.mem_cons_of_mem _ he)
    have hd := hl d (List.mem_cons_self ..)
    have e : clean row (d :: D) = swp (clean row D) d.2 d.1 := rfl
    refine ⟨by rw [e, swp_len (by omega)]; exact h1, ?_⟩
    have h3 : Sp (rowsOf (vecs (d :: D))) (fun j => vec row j + (-1) * vec (clean row D) j) := h2.mono fun y hy => List.mem_cons_of_mem _ hy
    have h4 : Sp (rowsOf (vecs (d :: D))) (vec d.2) := .gen (List.mem_cons_self ..)
    exact (h3.lin (vec (clean row D) d.1) h4).cast fun j => by
      rw [e, swp_vec (by omega)]
      grind
section
variable {f : Int} {D : Fd f}
/-- the kept rows on their way -/
structure Kst (D : Fd f) (w m c k s n : Nat) (rows : List (List D.F)) (kept : List (Ll D.F)) : Prop where
  ok : letI := D.fld; RedW w rows kept
  ex : letI := D.fld; ∃ (zs : List (Nat → Int)) (ps : List Nat) (b : Nat), Bits zs b ∧ b + s + c ≤ m ∧ D.ofI (dt zs ps) ≠ 0 ∧ ps.length = zs.length ∧ zs.length + n ≤ k ∧ ps.Nodup ∧ (∀ q, q ∈ ps ↔ ∃ d ∈ kept, d.1 = q) ∧ ∀ d ∈ kept, Sp (zs.map (im D)) (vec d.2)
theorem Kst.htc {w m c k s n : Nat} {rows : List (List D.F)} {kept : List (Ll D.F)} (h : Kst D w m c k s n rows kept) (hf : fact k < 2 ^ c) : letI := D.fld; HtC D m (rowsOf (vecs kept)) := by
  letI := D.fld
  obtain ⟨zs, ps, b, h1, h2, h3, h4, h5, h6, h7, h8⟩ := h.ex
  refine HtC.ready (c := c) h1 h4 h6 h3 (fun r hr => ?_) (Nat.lt_of_le_of_lt (fact_le (by omega)) hf) (by omega)
  obtain ⟨y, hy, rfl⟩ := List.mem_map.mp hr
  obtain ⟨x, hx, rfl⟩ := List.mem_map.mp hy
  refine ⟨h8 x hx, x.1, (h7 x.1).mpr ⟨x, hx, rfl⟩, h.ok.red.one _ hy, fun q hq ne => ?_⟩
  obtain ⟨d, hd, rfl⟩ := (h7 q).mp hq
  exact h.ok.red.alone (x.1, vec x.2) hy (d.1, vec d.2) (List.mem_map_of_mem hd) fun z => ne z.symm
theorem Kst.start {w m c k s n : Nat} (h : s + c ≤ m) (hn : n ≤ k) : Kst D w m c k s n [] [] := by
  letI := D.fld
  letI := D.dec
  refine ⟨lawRed_start, [], [], 0, Nat.le_refl _, by omega, ?_, rfl, by show 0 + n ≤ k; omega, .nil, (fun q => ⟨(fun h => by cases h), (fun ⟨_, h, _⟩ => by cases h)⟩), (fun d h => by cases h)⟩
  show D.ofI 1 ≠ 0
  rw [D.ofI_one]
  exact one_ne
theorem Kst.step {w m c k s n a : Nat} {rows : List (List D.F)} {kept : List (Ll D.F)} {r : List D.F} (h : Kst D w m c k (a + s) (n + 1) rows kept) (hr : r.length = w) (ha : letI := D.fld; Ht D a (vec r)) (hf : fact k < 2 ^ c) :
    letI := D.fld; letI := D.dec; Ht D m (vec (clean r kept.reverse)) ∧ Kst D w m c k s n (rows ++ [r]) (lawStep w kept r) := by
  letI := D.fld
  letI := D.dec
  obtain ⟨zs, ps, b, h1, h2, h3, h4, h5, h6, h7, h8⟩ := h.ex
  have RU : RedU (vecs kept.reverse) := by
    refine h.ok.red.perm ?_
    show (kept.map _).Perm (kept.reverse.map _)
    exact (List.reverse_perm kept).symm.map _
  have hl : ∀ d ∈ kept.reverse, d.2.length = w := fun d hd => h.ok.len d (List.mem_reverse.mp hd)
  obtain ⟨c1, c2, c3, c4, c5⟩ := clean_ok hr RU hl
  obtain ⟨_, cd⟩ := clean_diff hr hl
  have ok2 := law_step hr h.ok
  obtain ⟨d, z, d0, d1, d2⟩ := ha
  have hz0 : ∀ p ∈ ps, vec (clean r kept.reverse) p = 0 := fun p hp => by
    obtain ⟨x, hx, rfl⟩ := (h7 p).mp hp
    exact c3 x (List.mem_reverse.mpr hx)
  have hsp : Sp (zs.map (im D)) (fun j => im D z j + (-(D.ofI d)) * vec (clean r kept.reverse) j) := by
    have g := cd.trans (ss := zs.map (im D)) fun y hy => by
      obtain ⟨u, hu, rfl⟩ := List.mem_map.mp hy
      obtain ⟨x, hx, rfl⟩ := List.mem_map.mp hu
      exact h8 x (List.mem_reverse.mp hx)
    exact (g.mul (D.ofI d)).cast fun j => by
      have e := (d2 j).2
      show D.ofI d * (vec r j + -1 * vec (clean r kept.reverse) j) = D.ofI (z j) + _
      rw [e]
      generalize D.ofI d = A at *
      generalize D.ofI (z j) = B at *
      grind
  have hht : Ht D m (vec (clean r kept.reverse)) := Ht.swept (c := c) d0 hsp hz0 h3 h4 (fun j => (d2 j).1) d1 h1 (Nat.lt_of_le_of_lt (fact_le (by omega)) hf) (by omega)
  refine ⟨hht, ok2, ?_⟩
  have e : lawStep w kept r = match (List.range w).find? fun j => decide (vec (clean r kept.reverse) j ≠ 0) with
      | none => kept
      | some p => kept.map (fun d => (d.1, swp d.2 (scl (clean r kept.reverse) p) p)) ++ [(p, scl (clean r kept.reverse) p)] := by
    unfold lawStep
    rw [foldl_clean]
    try rfl
  rw [e]
  generalize clean r kept.reverse = x at *
  cases hfi : (List.range w).find? fun j => decide (vec x j ≠ 0) with
  | none => exact ⟨zs, ps, b, h1, by omega, h3, h4, by omega, h6, h7, h8⟩
  | some p =>
    obtain ⟨hp, hne, _⟩ := find_range hfi
    have e1 : D.ofI (dt (z :: zs) (p :: ps)) = D.ofI d * vec x p * D.ofI (dt zs ps) := by
      rw [← dt_im (D := D) (z :: zs) (p :: ps), ← dt_im (D := D) zs ps]
      exact swept_told hsp hz0 p
    have up : ∀ {v : Vec D.F}, Sp (zs.map (im D)) v → Sp ((z :: zs).map (im D)) v := fun h => h.mono fun y hy => List.mem_cons_of_mem _ hy
    have hx : Sp ((z :: zs).map (im D)) (vec x) := by
      have g := up hsp
      have g0 : Sp ((z :: zs).map (im D)) (im D z) := .gen (List.mem_cons_self ..)
      exact ((g0.lin (-1) g).mul (D.ofI d)⁻¹).cast fun j => by
        generalize D.ofI d = A at *
        generalize im D z j = B at *
        grind
    have hs : Sp ((z :: zs).map (im D)) (vec (scl x p)) := (hx.mul (vec x p)⁻¹).cast fun j => (scl_vec j).symm
    refine ⟨z :: zs, p :: ps, a + b, ⟨a, b, fun j => (d2 j).1, h1, Nat.le_refl _⟩, by omega, ?_, by show ps.length + 1 = zs.length + 1; omega, by show zs.length + 1 + n ≤ k; omega, List.nodup_cons.mpr ⟨fun hm => hne (hz0 p hm), h6⟩, fun q => ?_, fun y hy => ?_⟩
    · rw [e1]
      generalize D.ofI (dt zs ps) = A at *
      generalize D.ofI d = B at *
      grind
    · constructor
      · intro hq
        rcases List.mem_cons.mp hq with rfl | hq
        · exact ⟨_, List.mem_append_right _ (List.mem_cons_self ..), rfl⟩
        · obtain ⟨y, hy, e⟩ := (h7 q).mp hq
          exact ⟨_, List.mem_append_left _ (List.mem_map_of_mem hy), e⟩
      · rintro ⟨y, hy, rfl⟩
        rcases List.mem_append.mp hy with hy | hy
        · obtain ⟨u, hu, rfl⟩ := List.mem_map.mp hy
          exact List.mem_cons_of_mem _ ((h7 u.1).mpr ⟨u, hu, rfl⟩)
        · rw [List.mem_singleton.mp hy]
          exact List.mem_cons_self ..
    · rcases List.mem_append.mp hy with hy | hy
      · obtain ⟨u, hu, rfl⟩ := List.mem_map.mp hy
        have lu := h.ok.len u hu
        exact ((up (h8 u hu)).lin (-(vec u.2 p)) hs).cast fun j => (swp_vec (by rw [scl_len]; omega) j).symm
      · rw [List.mem_singleton.mp hy]
        exact hs
end
end Lin
/-! Sums of products: how high they stand; a row with one number more. -/
namespace Lin
open Lean.Grind St
def dotN {F : Type} [Lean.Grind.Field F] [DecidableEq F] (l c : List F) : Nat → F
  | 0 => 0
  | k + 1 => dotN l c k + vec l k * vec c k
section
variable {f : Int} {D : Fd f}
theorem vec_snoc {F : Type} [Field F] [DecidableEq F] {l : List F} {x : F} (j : Nat) : vec (l ++ [x]) j = if j < l.length then vec l j else if j = l.length then x else 0 := by
  by_cases h : j < l.length
  · rw [if_pos h]
    have e : (l ++ [x])[j]? = l[j]? := List.getElem?_append_left h
    rw [vec_lt h, vec_lt (by rw [List.length_append]; omega)] at e
    exact Option.some.inj e
  · rw [if_neg h]
    by_cases h2 : j = l.length
    · rw [if_pos h2]
      have e : (l ++ [x])[j]? = some x := by rw [h2]; simp
      rw [vec_lt (by rw [List.length_append]; show j < l.length + 1; omega)] at e
      exact Option.some.inj e
    · rw [if_neg h2]
      exact vec_ge (by rw [List.length_append]; show l.length + 1 ≤ j; omega)
theorem ext_ht {l : List D.F} {x : D.F} {d e t : Int} {z : Nat → Int} {h k : Nat} (hd : letI := D.fld; D.ofI d ≠ 0) (he : letI := D.fld; D.ofI e ≠ 0) (bd : d.natAbs < 2 ^ h) (be : e.natAbs < 2 ^ k) (hz : letI := D.fld; ∀ j, (z j).natAbs < 2 ^ h ∧ vec l j = D.ofI (z j) * (D.ofI d)⁻¹)
    (bt : t.natAbs < 2 ^ (h + k)) (hx : letI := D.fld; x = D.ofI t * (D.ofI (d * e))⁻¹) : letI := D.fld; Ht D (h + k) (vec (l ++ [x])) := by
  letI := D.fld
  letI := D.dec
  refine ⟨d * e, fun j => if j < l.length then z j * e else if j = l.length then t else 0, ?_, ?_, fun j => ?_⟩
  · rw [D.ofI_mul]
    generalize D.ofI d = A at *
    generalize D.ofI e = B at *
    grind
  · rw [Int.natAbs_mul]
    exact two_pow bd be
  · rw [vec_snoc]
    dsimp only
    by_cases h1 : j < l.length
    · rw [if_pos h1, if_pos h1]
      refine ⟨?_, ?_⟩
      · rw [Int.natAbs_mul]
        exact two_pow (hz j).1 be
      · rw [(hz j).2, D.ofI_mul, D.ofI_mul]
        generalize D.ofI d = A at *
        generalize D.ofI e = B at *
        generalize D.ofI (z j) = C at *
        grind
    · rw [if_neg h1, if_neg h1]
      by_cases h2 : j = l.length
      · rw [if_pos h2, if_pos h2]
        exact ⟨bt, hx⟩
      · rw [if_neg h2, if_neg h2]
        refine ⟨Nat.two_pow_pos _, ?_⟩
        rw [ofI_zero]
        grind
/-- .. by a single number -/
theorem ext_one (hf : IsF f) {l : List D.F} {x : D.F} {h k : Nat} (hl : letI := D.fld; Ht D h (vec l)) (hx : Sz D k x) : letI := D.fld; Ht D (h + k) (vec (l ++ [x])) := by
  letI := D.fld
  letI := D.dec
  obtain ⟨d, z, d0, d1, d2⟩ := hl
  obtain ⟨b0, e⟩ := num_div (D := D) hf x
  refine ext_ht (t := (D.enc x).1 * d) (e := (D.enc x).2) d0 b0 d1 hx.2 d2 ?_ ?_
  · rw [Int.natAbs_mul, Nat.add_comm]
    exact two_pow hx.1 d1
  · rw [D.ofI_mul, D.ofI_mul]
    generalize D.ofI d = A at *
    generalize D.ofI (D.enc x).2 = B at *
    generalize D.ofI (D.enc x).1 = C at *
    grind
def sumI (z y : Nat → Int) : Nat → Int
  | 0 => 0
  | k + 1 => sumI z y k + z k * y k
theorem sumI_le {z y : Nat → Int} {h g : Nat} (hz : ∀ j, (z j).natAbs < 2 ^ h) (hy : ∀ j, (y j).natAbs < 2 ^ g) : ∀ k, (sumI z y k).natAbs ≤ k * 2 ^ (h + g)
  | 0 => by
    show (0 : Int).natAbs ≤ _
    omega
  | k + 1 => by
    have h1 := sumI_le hz hy k
    have h2 : (z k * y k).natAbs < 2 ^ (h + g) := by
      rw [Int.natAbs_mul]
      exact two_pow (hz k) (hy k)
    show (sumI z y k + z k * y k).natAbs ≤ (k + 1) * 2 ^ (h + g)
    rw [Nat.succ_mul]
    omega
theorem dot_sum {l c : List D.F} {d e : Int} {z y : Nat → Int} (hd : letI := D.fld; D.ofI d ≠ 0) (he : letI := D.fld; D.ofI e ≠ 0) (hz : letI := D.fld; ∀ j, vec l j = D.ofI (z j) * (D.ofI d)⁻¹) (hy : letI := D.fld; ∀ j, vec c j = D.ofI (y j) * (D.ofI e)⁻¹) :
    ∀ k, letI := D.fld; letI := D.dec; dotN l c k = D.ofI (sumI z y k) * (D.ofI (d * e))⁻¹
  | 0 => by
    letI := D.fld
    letI := D.dec
    show (0 : D.F) = D.ofI 0 * _
    rw [ofI_zero]
    grind
  | k + 1 => by
    letI := D.fld
    letI := D.dec
    show dotN l c k + vec l k * vec c k = D.ofI (sumI z y k + z k * y k) * _
    rw [dot_sum hd he hz hy k, hz k, hy k, D.ofI_add, D.ofI_mul (z k), D.ofI_mul d]
    generalize D.ofI d = A at *
    generalize D.ofI e = B at *
    generalize D.ofI (z k) = C at *
    generalize D.ofI (y k) = E at *
    generalize D.ofI (sumI z y k) = G at *
    grind
/-- a row of at most seven numbers with a column: all partial sums, and the row with its sum -/
theorem dot_ht {l c : List D.F} {h g : Nat} (hl : letI := D.fld; Ht D h (vec l)) (hc : letI := D.fld; Ht D g (vec c)) (k : Nat) (hk : k ≤ 7) :
    letI := D.fld; letI := D.dec; Ht D (h + (g + 3)) (vec (l ++ [dotN l c k])) ∧ Ht D (h + (g + 3)) (fun _ => dotN l c k) := by
  letI := D.fld
  letI := D.dec
  obtain ⟨d, z, d0, d1, d2⟩ := hl
  obtain ⟨e, y, e0, e1, e2⟩ := hc
  have hs := dot_sum d0 e0 (fun j => (d2 j).2) (fun j => (e2 j).2) k
  have hb : (sumI z y k).natAbs < 2 ^ (h + (g + 3)) := by
    have h1 := sumI_le (fun j => (d2 j).1) (fun j => (e2 j).1) k
    have h2 : k * 2 ^ (h + g) ≤ 7 * 2 ^ (h + g) := Nat.mul_le_mul_right _ hk
    have h3 : 2 ^ (h + (g + 3)) = 2 ^ (h + g) * 8 := by rw [← Nat.add_assoc, Nat.pow_add]
    have h4 : 0 < 2 ^ (h + g) := Nat.two_pow_pos _
    omega
  have be : e.natAbs < 2 ^ (g + 3) := Nat.lt_of_lt_of_le e1 (Nat.pow_le_pow_right (by decide) (by omega))
  refine ⟨ext_ht d0 e0 d1 be d2 hb hs, d * e, fun _ => sumI z y k, ?_, ?_, fun j => ⟨hb, hs⟩⟩
  · rw [D.ofI_mul]
    generalize D.ofI d = A at *
    generalize D.ofI e = B at *
    grind
  · rw [Int.natAbs_mul]
    exact two_pow d1 be
end
end Lin
/-! The column of a place without a lead. -/
namespace Lin
open Lean.Grind St
def spotsL {F : Type} (w : Nat) (A : List (Ll F)) : List Nat := (List.range w).filter fun p => !(A.any fun d => d.1 == p)
section
variable {F : Type} [Field F] [DecidableEq F]
def nullF (p : Nat) (A : List (Ll F)) (c : List F) : List F := A.foldl (fun c d => c.set d.1 (-(vec d.2 p))) c
def nullL (w p : Nat) (A : List (Ll F)) : List F := nullF p A ((List.replicate w 0).set p 1)
theorem nullF_len {p : Nat} : ∀ (A : List (Ll F)) (c : List F), (nullF p A c).length = c.length
  | [], c => rfl
  | d :: A, c => by
    show (nullF p A (c.set d.1 (-(vec d.2 p)))).length = _
    rw [nullF_len A, List.length_set]
theorem vec_set {c : List F} {i j : Nat} {x : F} (h : i < c.length) : vec (c.set i x) j = if i = j then x else vec c j := by
  by_cases e : i = j
  · subst e
    rw [if_pos rfl]
    have h1 : (c.set i x)[i]? = some x := List.getElem?_set_self h
    rw [vec_lt (by rw [List.length_set]; exact h)] at h1
    exact Option.some.inj h1
  · rw [if_neg e]
    rcases Nat.lt_or_ge j c.length with hj | hj
    · have h1 : (c.set i x)[j]? = c[j]? := List.getElem?_set_ne e
      rw [vec_lt (by rw [List.length_set]; exact hj), vec_lt hj] at h1
      exact Option.some.inj h1
    · rw [vec_ge (by rw [List.length_set]; exact hj), vec_ge hj]
theorem nullF_other {p : Nat} : ∀ {A : List (Ll F)} {c : List F} {j : Nat}, (∀ d ∈ A, d.1 < c.length) → (∀ d ∈ A, d.1 ≠ j) → vec (nullF p A c) j = vec c j
  | [], _, _, _, _ => rfl
  | d :: A, c, j, h, hj => by
    have h0 := h d (List.mem_cons_self ..)
    show vec (nullF p A (c.set d.1 (-(vec d.2 p)))) j = _
    rw [nullF_other (A := A) (fun e he => by rw [List.length_set]; exact h e (List.mem_cons_of_mem _ he)) (fun e he => hj e (List.mem_cons_of_mem _ he)), vec_set h0, if_neg (hj d (List.mem_cons_self ..))]
theorem nullF_lead {p : Nat} : ∀ {A : List (Ll F)} {c : List F} {d : Ll F}, (∀ d ∈ A, d.1 < c.length) → A.Pairwise (fun a b => a.1 ≠ b.1) → d ∈ A → vec (nullF p A c) d.1 = -(vec d.2 p)
  | e :: A, c, d, h, hd, hm => by
    obtain ⟨h1, h2⟩ := List.pairwise_cons.mp hd
    have h0 := h e (List.mem_cons_self ..)
    have hA : ∀ x ∈ A, x.1 < (c.set e.1 (-(vec e.2 p))).length := fun x hx => by rw [List.length_set]; exact h x (List.mem_cons_of_mem _ hx)
    show vec (nullF p A (c.set e.1 (-(vec e.2 p)))) d.1 = _
    rcases List.mem_cons.mp hm with rfl | hm
    · rw [nullF_other hA (fun x hx z => h1 x hx z.symm), vec_set h0, if_pos rfl]
    · exact nullF_lead hA h2 hm
theorem vec_reps {w j : Nat} : vec (List.replicate w (0 : F)) j = 0 := by
  rcases Nat.lt_or_ge j w with h | h
  · have e : (List.replicate w (0 : F))[j]? = some 0 := by simp [h]
    rw [vec_lt (by rw [List.length_replicate]; exact h)] at e
    exact Option.some.inj e
  · exact vec_ge (by rw [List.length_replicate]; exact h)
theorem nullL_len {w p : Nat} {A : List (Ll F)} : (nullL w p A).length = w := by
  unfold nullL
  rw [nullF_len, List.length_set, List.length_replicate]
theorem nullL_lead {w p : Nat} {A : List (Ll F)} {d : Ll F} (hA : ∀ d ∈ A, d.1 < w) (hd : A.Pairwise (fun a b => a.1 ≠ b.1)) (hm : d ∈ A) : vec (nullL w p A) d.1 = -(vec d.2 p) :=
  nullF_lead (fun x hx => by rw [List.length_set, List.length_replicate]; exact hA x hx) hd hm
theorem nullL_other {w p j : Nat} {A : List (Ll F)} (hp : p < w) (hA : ∀ d ∈ A, d.1 < w) (hj : ∀ d ∈ A, d.1 ≠ j) : vec (nullL w p A) j = if p = j then 1 else 0 := by
  unfold nullL
  rw [nullF_other (fun x hx => by rw [List.length_set, List.length_replicate]; exact hA x hx) hj, vec_set (by rw [List.length_replicate]; exact hp)]
  by_cases h : p = j
  · rw [if_pos h, if_pos h]
  · rw [if_neg h, if_neg h, vec_reps]
/-- sums over places -/
def sumV (g : Nat → F) : Nat → F
  | 0 => 0
  | k + 1 => sumV g k + g k
theorem dotN_sum (l c : List F) : ∀ k, dotN l c k = sumV (fun j => vec l j * vec c j) k
  | 0 => rfl
  | k + 1 => by
    show dotN l c k + _ = sumV _ k + _
    rw [dotN_sum l c k]
theorem sumV_two {g : Nat → F} {p q : Nat} (ne : p ≠ q) (hz : ∀ j, j ≠ p → j ≠ q → g j = 0) : ∀ k, sumV g k = (if p < k then g p else 0) + (if q < k then g q else 0)
  | 0 => by
    show (0 : F) = _
    rw [if_neg (by omega), if_neg (by omega)]
    grind
  | k + 1 => by
    show sumV g k + g k = _
    rw [sumV_two ne hz k]
    by_cases h1 : k = p
    · subst h1
      rw [if_neg (show ¬ k < k by omega), if_pos (show k < k + 1 by omega)]
      by_cases h2 : q < k
      · rw [if_pos h2, if_pos (show q < k + 1 by omega)]
        grind
      · rw [if_neg h2, if_neg (show ¬ q < k + 1 by omega)]
        grind
    · by_cases h2 : k = q
      · subst h2
        rw [if_neg (show ¬ k < k by omega), if_pos (show k < k + 1 by omega)]
        by_cases h3 : p < k
        · rw [if_pos h3, if_pos (show p < k + 1 by omega)]
          grind
        · rw [if_neg h3, if_neg (show ¬ p < k + 1 by omega)]
          grind
      · rw [hz k h1 h2]
        have e1 : (p < k) = (p < k + 1) := propext ⟨fun h => by omega, fun h => by omega⟩
        have e2 : (q < k) = (q < k + 1) := propext ⟨fun h => by omega, fun h => by omega⟩
        simp only [e1, e2]
        grind
theorem sumV_lin {u r c : Nat → F} {a : F} : ∀ k, sumV (fun j => (u j + a * r j) * c j) k = sumV (fun j => u j * c j) k + a * sumV (fun j => r j * c j) k
  | 0 => by
    show (0 : F) = 0 + a * 0
    grind
  | k + 1 => by
    show sumV _ k + _ = (sumV _ k + _) + a * (sumV _ k + _)
    rw [sumV_lin k]
    grind
theorem sumV_zero {c : Nat → F} : ∀ k, sumV (fun j => (0 : F) * c j) k = 0
  | 0 => rfl
  | k + 1 => by
    show sumV _ k + _ = 0
    rw [sumV_zero k]
    grind
theorem sumV_sp {rs : List (Vec F)} {v c : Vec F} {k : Nat} (h : Sp rs v) (hr : ∀ r ∈ rs, sumV (fun j => r j * c j) k = 0) : sumV (fun j => v j * c j) k = 0 := by
  induction h with
  | zero => exact sumV_zero k
  | step a hm _ ih =>
    rw [sumV_lin k, ih, hr _ hm]
    grind
/-- rows in the span of the reduced ones lead the column to nought -/
theorem null_dot {w p : Nat} {rows : List (List F)} {A : List (Ll F)} (R : RedOf w rows A) (hA : ∀ d ∈ A, d.1 < w) (hp : p < w) (hs : ∀ d ∈ A, d.1 ≠ p) {l : List F} (hl : l ∈ rows) : dotN l (nullL w p A) w = 0 := by
  rw [dotN_sum]
  refine sumV_sp (R.into l hl) fun r hr => ?_
  obtain ⟨x, hx, rfl⟩ := List.mem_map.mp hr
  obtain ⟨d, hd, rfl⟩ := List.mem_map.mp hx
  have dis := R.red.toU.dist
  rw [List.pairwise_map] at dis
  have one : vec d.2 d.1 = 1 := R.red.toU.one (d.1, vec d.2) (List.mem_map_of_mem hd)
  have hdp := hs d hd
  rw [sumV_two (g := fun j => vec d.2 j * vec (nullL w p A) j) (p := p) (q := d.1) (fun e => hdp e.symm) (fun j h1 h2 => ?_) w, if_pos hp, if_pos (hA d hd), nullL_other hp hA hs, if_pos rfl, nullL_lead hA dis hd, one]
  · grind
  · by_cases h : ∃ e ∈ A, e.1 = j
    · obtain ⟨e, he, rfl⟩ := h
      have z : vec d.2 e.1 = 0 := R.red.toU.alone (d.1, vec d.2) (List.mem_map_of_mem hd) (e.1, vec e.2) (List.mem_map_of_mem he) fun z => h2 z.symm
      rw [z]
      grind
    · have z : vec (nullL w p A) j = 0 := by
        rw [nullL_other hp hA (fun e he z => h ⟨e, he, z⟩), if_neg (fun z => h1 z.symm)]
      rw [z]
      grind
end
section
variable {f : Int} {D : Fd f}
/-- how high such a column stands -/
theorem null_ht {w p m : Nat} {A : List (Ll D.F)} (hC : letI := D.fld; HtC D m (rowsOf (vecs A))) (hA : ∀ d ∈ A, d.1 < w) (hd : A.Pairwise (fun a b => a.1 ≠ b.1)) (hp : p < w) (hs : ∀ d ∈ A, d.1 ≠ p) : letI := D.fld; letI := D.dec; Ht D m (vec (nullL w p A)) := by
  letI := D.fld
  letI := D.dec
  obtain ⟨d, d0, d1, d2⟩ := hC
  have hm : ∀ e ∈ A, vec e.2 ∈ rowsOf (vecs A) := fun e he => List.mem_map_of_mem (f := fun x : Lr D.F => x.2) (List.mem_map_of_mem (f := fun a : Ll D.F => (a.1, vec a.2)) he)
  have ex : ∀ j, ∃ z : Int, z.natAbs < 2 ^ m ∧ vec (nullL w p A) j = D.ofI z * (D.ofI d)⁻¹ := fun j => by
    by_cases h : ∃ e ∈ A, e.1 = j
    · obtain ⟨e, he, rfl⟩ := h
      obtain ⟨z, hz⟩ := d2 _ (hm e he)
      refine ⟨-(z p), by rw [Int.natAbs_neg]; exact (hz p).1, ?_⟩
      rw [nullL_lead hA hd he, (hz p).2, ofI_neg]
      generalize D.ofI d = A at *
      generalize D.ofI (z p) = B at *
      grind
    · have hj : ∀ e ∈ A, e.1 ≠ j := fun e he z => h ⟨e, he, z⟩
      rw [nullL_other hp hA hj]
      by_cases e : p = j
      · rw [if_pos e]
        refine ⟨d, d1, ?_⟩
        generalize D.ofI d = A at *
        grind
      · rw [if_neg e]
        refine ⟨0, Nat.two_pow_pos _, ?_⟩
        rw [ofI_zero]
        grind
  exact ⟨d, fun j => (ex j).choose, d0, d1, fun j => (ex j).choose_spec⟩
end
end Lin
/-! All columns that rows lead to nought: sums of the base, and how many. -/
namespace Lin
open Lean.Grind St
section
variable {F : Type} [Field F] [DecidableEq F]
theorem spotsL_succ {A : List (Ll F)} (j : Nat) : spotsL (j + 1) A = if A.any (fun d => d.1 == j) = true then spotsL j A else spotsL j A ++ [j] := by
  unfold spotsL
  rw [List.range_succ, List.filter_append]
  by_cases h : A.any (fun d => d.1 == j) = true
  · rw [if_pos h, List.filter_cons_of_neg (by rw [h]; decide), List.filter_nil, List.append_nil]
  · rw [if_neg h, List.filter_cons_of_pos (by rw [Bool.eq_false_iff.mpr h]; rfl), List.filter_nil]
/-- a sum over a list of places -/
def sumS (g : Nat → F) : List Nat → F
  | [] => 0
  | s :: l => g s + sumS g l
theorem sumS_app (g : Nat → F) : ∀ (l m : List Nat), sumS g (l ++ m) = sumS g l + sumS g m
  | [], m => by
    show sumS g m = 0 + sumS g m
    grind
  | s :: l, m => by
    show g s + sumS g (l ++ m) = g s + sumS g l + sumS g m
    rw [sumS_app g l m]
    grind
theorem any_lead {A : List (Ll F)} {j : Nat} : A.any (fun d => d.1 == j) = true ↔ ∃ d ∈ A, d.1 = j := by
  rw [List.any_eq_true]
  constructor
  · rintro ⟨d, hd, e⟩
    exact ⟨d, hd, by simpa using e⟩
  · rintro ⟨d, hd, e⟩
    exact ⟨d, hd, by simpa using e⟩
/-- over all places: over the spots, and the one lead at which it isn't nought -/
theorem sum_spots {A : List (Ll F)} {g : Nat → F} {q : Nat} (hq : ∃ d ∈ A, d.1 = q) (hz : ∀ d ∈ A, d.1 ≠ q → g d.1 = 0) : ∀ k, sumV g k = sumS g (spotsL k A) + (if q < k then g q else 0)
  | 0 => by
    show (0 : F) = 0 + _
    rw [if_neg (by omega)]
    grind
  | k + 1 => by
    show sumV g k + g k = _
    rw [sum_spots hq hz k, spotsL_succ]
    by_cases h : A.any (fun d => d.1 == k) = true
    · rw [if_pos h]
      by_cases e : k = q
      · subst e
        rw [if_neg (show ¬ k < k by omega), if_pos (show k < k + 1 by omega)]
        grind
      · obtain ⟨d, hd, ed⟩ := any_lead.mp h
        have z : g k = 0 := by
          have := hz d hd (fun z => e (ed.symm.trans z))
          rw [ed] at this
          exact this
        rw [z]
        by_cases h2 : q < k
        · rw [if_pos h2, if_pos (show q < k + 1 by omega)]
          grind
        · rw [if_neg h2, if_neg (show ¬ q < k + 1 by omega)]
          grind
    · rw [if_neg h, sumS_app]
      have e : k ≠ q := fun e => h (any_lead.mpr (by rw [e]; exact hq))
      show _ = sumS g (spotsL k A) + (g k + 0) + _
      by_cases h2 : q < k
      · rw [if_pos h2, if_pos (show q < k + 1 by omega)]
        grind
      · rw [if_neg h2, if_neg (show ¬ q < k + 1 by omega)]
        grind
theorem sumS_zero {g : Nat → F} : ∀ {l : List Nat}, (∀ s ∈ l, g s = 0) → sumS g l = 0
  | [], _ => rfl
  | s :: l, h => by
    show g s + sumS g l = 0
    rw [h s (List.mem_cons_self ..), sumS_zero fun t ht => h t (List.mem_cons_of_mem _ ht)]
    grind
theorem sumS_one {g : Nat → F} {j : Nat} : ∀ {l : List Nat}, l.Nodup → j ∈ l → (∀ s ∈ l, s ≠ j → g s = 0) → sumS g l = g j
  | s :: l, nd, hj, h => by
    obtain ⟨n1, n2⟩ := List.nodup_cons.mp nd
    show g s + sumS g l = g j
    rcases List.mem_cons.mp hj with rfl | hj
    · rw [sumS_zero fun t ht => h t (List.mem_cons_of_mem _ ht) fun z => n1 (by rw [← z]; exact ht)]
      grind
    · rw [h s (List.mem_cons_self ..) (fun z => n1 (by rw [z]; exact hj)), sumS_one n2 hj fun t ht => h t (List.mem_cons_of_mem _ ht)]
      grind
/-- the sum of the base by a column's numbers at the spots, number by number -/
def combV (w : Nat) (A : List (Ll F)) (c : Nat → F) (l : List Nat) (j : Nat) : F := sumS (fun s => vec (nullL w s A) j * c s) l
theorem spots_nodup {w : Nat} {A : List (Ll F)} : (spotsL w A).Nodup := List.Nodup.sublist List.filter_sublist List.nodup_range
theorem spots_at {w p : Nat} {A : List (Ll F)} : p ∈ spotsL w A ↔ p < w ∧ ∀ d ∈ A, d.1 ≠ p := by
  unfold spotsL
  rw [List.mem_filter, List.mem_range, Bool.not_eq_true', Bool.eq_false_iff]
  refine ⟨fun h => ⟨h.1, fun d hd e => h.2 (any_lead.mpr ⟨d, hd, e⟩)⟩, fun h => ⟨h.1, fun z => ?_⟩⟩
  obtain ⟨d, hd, e⟩ := any_lead.mp z
  exact h.2 d hd e
section
variable {w : Nat} {rows : List (List F)} {A : List (Ll F)} (R : RedOf w rows A) (hA : ∀ d ∈ A, d.1 < w)
include R hA
theorem dis_of : A.Pairwise (fun a b => a.1 ≠ b.1) := by
  have dis := R.red.toU.dist
  rw [List.pairwise_map] at dis
  exact dis
/-- what the reduced rows lead to nought is such a sum -/
theorem ker_comb {c : Nat → F} (h : ∀ d ∈ A, sumV (fun j => vec d.2 j * c j) w = 0) {j : Nat} (hj : j < w) : combV w A c (spotsL w A) j = c j := by
  unfold combV
  by_cases hl : ∃ d ∈ A, d.1 = j
  · obtain ⟨d, hd, rfl⟩ := hl
    have h1 := h d hd
    have one : vec d.2 d.1 = 1 := R.red.toU.one (d.1, vec d.2) (List.mem_map_of_mem hd)
    rw [sum_spots (A := A) (q := d.1) ⟨d, hd, rfl⟩ (fun e he ne => by
      have z : vec d.2 e.1 = 0 := R.red.toU.alone (d.1, vec d.2) (List.mem_map_of_mem hd) (e.1, vec e.2) (List.mem_map_of_mem he) ne.symm
      show vec d.2 e.1 * c e.1 = 0
      rw [z]
      grind) w, if_pos (hA d hd), one] at h1
    have e : ∀ l : List Nat, sumS (fun s => vec (nullL w s A) d.1 * c s) l = -(sumS (fun s => vec d.2 s * c s) l) := fun l => by
      induction l with
      | nil =>
        show (0 : F) = -0
        grind
      | cons s l ih =>
        show vec (nullL w s A) d.1 * c s + _ = -(vec d.2 s * c s + _)
        rw [ih, nullL_lead hA (dis_of R hA) hd]
        grind
    rw [e]
    generalize sumS (fun s => vec d.2 s * c s) (spotsL w A) = X at *
    grind
  · have hs : j ∈ spotsL w A := spots_at.mpr ⟨hj, fun d hd e => hl ⟨d, hd, e⟩⟩
    rw [sumS_one spots_nodup hs fun s hs ne => ?_]
    · rw [nullL_other hj hA (spots_at.mp hs).2, if_pos rfl]
      grind
    · rw [nullL_other (spots_at.mp hs).1 hA (fun d hd e => hl ⟨d, hd, e⟩), if_neg ne]
      grind
/-- such a sum is led to nought -/
theorem comb_ker {c : Nat → F} (h : ∀ j, j < w → combV w A c (spotsL w A) j = c j) {l : List F} (hl : l ∈ rows) : sumV (fun j => vec l j * c j) w = 0 := by
  have key : ∀ m : List Nat, (∀ s ∈ m, s < w ∧ ∀ d ∈ A, d.1 ≠ s) → sumV (fun j => vec l j * combV w A c m j) w = 0 := fun m => by
    induction m with
    | nil =>
      intro _
      have e : (fun j => vec l j * combV w A c [] j) = fun j => (0 : F) * vec l j := funext fun j => by
        show vec l j * 0 = 0 * vec l j
        grind
      rw [e, sumV_zero]
    | cons s m ih =>
      intro hm
      have e : (fun j => vec l j * combV w A c (s :: m) j) = fun j => (combV w A c m j + c s * vec (nullL w s A) j) * vec l j := funext fun j => by
        show vec l j * (vec (nullL w s A) j * c s + combV w A c m j) = _
        grind
      have e1 : (fun j => combV w A c m j * vec l j) = fun j => vec l j * combV w A c m j := funext fun j => by grind
      have e2 : (fun j => vec (nullL w s A) j * vec l j) = fun j => vec l j * vec (nullL w s A) j := funext fun j => by grind
      have hs := hm s (List.mem_cons_self ..)
      rw [e, sumV_lin, e1, e2, ih fun t ht => hm t (List.mem_cons_of_mem _ ht), ← dotN_sum, null_dot R hA hs.1 hs.2 hl]
      grind
  have h2 := key (spotsL w A) fun s hs => spots_at.mp hs
  have cong : ∀ k, k ≤ w → sumV (fun j => vec l j * c j) k = sumV (fun j => vec l j * combV w A c (spotsL w A) j) k := fun k => by
    induction k with
    | zero => exact fun _ => rfl
    | succ k ih =>
      intro hk
      show sumV _ k + vec l k * c k = sumV _ k + vec l k * combV w A c (spotsL w A) k
      rw [ih (by omega), h k (by omega)]
  rw [cong w (Nat.le_refl w)]
  exact h2
/-- rows and reduced rows lead the same to nought -/
theorem ker_rows {c : Nat → F} : (∀ l ∈ rows, sumV (fun j => vec l j * c j) w = 0) ↔ ∀ d ∈ A, sumV (fun j => vec d.2 j * c j) w = 0 := by
  constructor
  · intro h d hd
    refine sumV_sp (R.of d hd) fun r hr => ?_
    obtain ⟨l, hl, rfl⟩ := List.mem_map.mp hr
    exact h l hl
  · intro h l hl
    refine sumV_sp (R.into l hl) fun r hr => ?_
    obtain ⟨x, hx, rfl⟩ := List.mem_map.mp hr
    obtain ⟨d, hd, rfl⟩ := List.mem_map.mp hx
    exact h d hd
end
/-! ### how many -/
def allC (E : List F) : Nat → List (List F)
  | 0 => [[]]
  | k + 1 => (allC E k).flatMap fun r => E.map fun x => r ++ [x]
theorem allC_len {E : List F} : ∀ {k : Nat} {r : List F}, r ∈ allC E k → r.length = k
  | 0, r, h => by
    rw [List.mem_singleton.mp h]
    rfl
  | k + 1, r, h => by
    obtain ⟨s, hs, h⟩ := List.mem_flatMap.mp h
    obtain ⟨x, _, rfl⟩ := List.mem_map.mp h
    rw [List.length_append, allC_len hs]
    rfl
def sumN : List Nat → Nat
  | [] => 0
  | x :: l => x + sumN l
theorem sumN_add {α : Type} (f g : α → Nat) : ∀ l : List α, sumN (l.map fun x => f x + g x) = sumN (l.map f) + sumN (l.map g)
  | [] => rfl
  | x :: l => by
    show f x + g x + sumN _ = (f x + sumN _) + (g x + sumN _)
    rw [sumN_add f g l]
    omega
theorem sumN_zero {α : Type} : ∀ l : List α, sumN (l.map fun _ => 0) = 0
  | [] => rfl
  | x :: l => by
    show 0 + sumN _ = 0
    rw [sumN_zero l]
theorem count_one {α : Type} (P : α → Bool) : ∀ l : List α, l.countP P = sumN (l.map fun x => if P x then 1 else 0)
  | [] => rfl
  | x :: l => by
    rw [List.countP_cons, count_one P l]
    show _ = (if P x then 1 else 0) + sumN _
    omega
theorem count_flat {E : List F} (P : List F → Bool) : ∀ L : List (List F), (L.flatMap fun r => E.map fun x => r ++ [x]).countP P = sumN (E.map fun x => L.countP fun r => P (r ++ [x]))
  | [] => (sumN_zero E).symm
  | r :: L => by
    rw [List.flatMap_cons, List.countP_append, count_flat P L, List.countP_map, count_one, ← sumN_add]
    congr 1
    refine List.map_congr_left fun x _ => ?_
    rw [List.countP_cons]
    show (if P (r ++ [x]) then 1 else 0) + _ = _
    omega
theorem sumN_const {α : Type} {n : Nat} : ∀ {l : List α} {f : α → Nat}, (∀ x ∈ l, f x = n) → sumN (l.map f) = l.length * n
  | [], _, _ => (Nat.zero_mul n).symm
  | x :: l, f, h => by
    show f x + sumN (l.map f) = (l.length + 1) * n
    rw [h x (List.mem_cons_self ..), sumN_const fun y hy => h y (List.mem_cons_of_mem _ hy), Nat.succ_mul]
    omega
theorem sumN_single {α : Type} {n : Nat} {a : α} : ∀ {l : List α} {f : α → Nat}, l.Nodup → a ∈ l → f a = n → (∀ x ∈ l, x ≠ a → f x = 0) → sumN (l.map f) = n
  | x :: l, f, nd, ha, h1, h0 => by
    obtain ⟨n1, n2⟩ := List.nodup_cons.mp nd
    show f x + sumN (l.map f) = n
    rcases List.mem_cons.mp ha with rfl | ha
    · rw [h1, sumN_const (n := 0) fun y hy => h0 y (List.mem_cons_of_mem _ hy) fun z => n1 (by rw [← z]; exact hy)]
      omega
    · rw [h0 x (List.mem_cons_self ..) (fun z => n1 (by rw [z]; exact ha)), sumN_single n2 ha h1 fun y hy => h0 y (List.mem_cons_of_mem _ hy)]
      omega
theorem sumV_bump {u v : Nat → F} {k : Nat} (h : ∀ j, j ≠ k → u j = v j) : ∀ w, sumV u w = sumV v w + (if k < w then u k + (-1) * v k else 0)
  | 0 => by
    show (0 : F) = 0 + _
    rw [if_neg (by omega)]
    grind
  | w + 1 => by
    show sumV u w + u w = sumV v w + v w + _
    rw [sumV_bump h w]
    by_cases e : w = k
    · subst e
      rw [if_neg (show ¬ w < w by omega), if_pos (show w < w + 1 by omega)]
      grind
    · rw [h w e]
      by_cases h2 : k < w
      · rw [if_pos h2, if_pos (show k < w + 1 by omega)]
        grind
      · rw [if_neg h2, if_neg (show ¬ k < w + 1 by omega)]
        grind
theorem sumV_cong {u v : Nat → F} (h : ∀ j, u j = v j) (w : Nat) : sumV u w = sumV v w := by
  have e : u = v := funext h
  rw [e]
theorem vec_app {l m : List F} (j : Nat) : vec (l ++ m) j = if j < l.length then vec l j else vec m (j - l.length) := by
  by_cases h : j < l.length
  · rw [if_pos h]
    have e : (l ++ m)[j]? = l[j]? := List.getElem?_append_left h
    rw [vec_lt h, vec_lt (by rw [List.length_append]; omega)] at e
    exact Option.some.inj e
  · rw [if_neg h]
    have e : (l ++ m)[j]? = m[j - l.length]? := List.getElem?_append_right (by omega)
    rcases Nat.lt_or_ge (j - l.length) m.length with h2 | h2
    · rw [vec_lt h2, vec_lt (by rw [List.length_append]; omega)] at e
      exact Option.some.inj e
    · rw [vec_ge h2, vec_ge (by rw [List.length_append]; omega)]
def goodB (w : Nat) (A : List (Ll F)) (c : List F) : Bool := decide (∀ d ∈ A, sumV (fun j => vec d.2 j * vec c j) w = 0)
def Gk (w : Nat) (A : List (Ll F)) (k : Nat) (c : List F) : Prop := ∀ d ∈ A, k ≤ d.1 → sumV (fun j => vec d.2 j * vec c j) w = 0
section
variable {w : Nat} {rows : List (List F)} {A : List (Ll F)} (R : RedOf w rows A) (hA : ∀ d ∈ A, d.1 < w)
include R
/-- only what stands from the lead on matters -/
theorem dot_tail {d : Ll F} (hd : d ∈ A) {u v : List F} (h : ∀ j, d.1 ≤ j → vec u j = vec v j) : sumV (fun j => vec d.2 j * vec u j) w = sumV (fun j => vec d.2 j * vec v j) w := sumV_cong (fun j => by
  rcases Nat.lt_or_ge j d.1 with hj | hj
  · have z : vec d.2 j = 0 := R.red.toU.ahead (d.1, vec d.2) (List.mem_map_of_mem hd) j hj
    rw [z]
    grind
  · rw [h j hj]) w
theorem app_tail {r r' suf : List F} {k : Nat} (h1 : r.length = k) (h2 : r'.length = k) (j : Nat) (hj : k ≤ j) : vec (r ++ suf) j = vec (r' ++ suf) j := by
  rw [vec_app, vec_app, if_neg (by omega), if_neg (by omega), h1, h2]
theorem cons_tail {k : Nat} {x : F} {suf : List F} (j : Nat) (hj : k + 1 ≤ j) : vec (List.replicate k 0 ++ x :: suf) j = vec (List.replicate (k + 1) 0 ++ suf) j := by
  rw [vec_app, vec_app, if_neg (by rw [List.length_replicate]; omega), if_neg (by rw [List.length_replicate]; omega), List.length_replicate, List.length_replicate]
  have e : j - k = (j - (k + 1)) + 1 := by omega
  rw [e]
  rfl
include hA
theorem count_ker {E : List F} (nd : E.Nodup) (all : ∀ x, x ∈ E) : ∀ (k : Nat) (suf : List F), k ≤ w →
    (Gk w A k (List.replicate k 0 ++ suf) → (allC E k).countP (fun r => goodB w A (r ++ suf)) = E.length ^ (spotsL k A).length) ∧ (¬ Gk w A k (List.replicate k 0 ++ suf) → (allC E k).countP (fun r => goodB w A (r ++ suf)) = 0)
  | 0, suf, _ => by
    have e : goodB w A suf = true ↔ Gk w A 0 suf := by
      unfold goodB
      rw [decide_eq_true_eq]
      exact ⟨fun h d hd _ => h d hd, fun h d hd => h d hd (Nat.zero_le _)⟩
    have c : (allC E 0).countP (fun r => goodB w A (r ++ suf)) = if goodB w A suf = true then 1 else 0 := by
      show ([[]] : List (List F)).countP _ = _
      rw [List.countP_cons]
      show 0 + (if goodB w A ([] ++ suf) = true then 1 else 0) = _
      rw [List.nil_append, Nat.zero_add]
    rw [c]
    refine ⟨fun h => ?_, fun h => ?_⟩
    · rw [if_pos (e.mpr h)]
      rfl
    · exact if_neg fun z => h (e.mp z)
  | k + 1, suf, hk => by
    have hc : (allC E (k + 1)).countP (fun r => goodB w A (r ++ suf)) = sumN (E.map fun x => (allC E k).countP fun r => goodB w A (r ++ x :: suf)) := by
      show ((allC E k).flatMap fun r => E.map fun x => r ++ [x]).countP _ = _
      rw [count_flat]
      congr 1
      refine List.map_congr_left fun x _ => ?_
      congr 1
      funext r
      rw [List.append_assoc]
      rfl
    have down : ∀ x, Gk w A k (List.replicate k 0 ++ x :: suf) → Gk w A (k + 1) (List.replicate (k + 1) 0 ++ suf) := fun x h d hd hl => by
      rw [← dot_tail R hd (u := List.replicate k 0 ++ x :: suf) fun j hj => cons_tail R j (by omega)]
      exact h d hd (by omega)
    rw [hc]
    refine ⟨fun h => ?_, fun h => ?_⟩
    · rw [spotsL_succ]
      by_cases hl : A.any (fun d => d.1 == k) = true
      · rw [if_pos hl]
        obtain ⟨d, hd, ed⟩ := any_lead.mp hl
        have one : vec d.2 d.1 = 1 := R.red.toU.one (d.1, vec d.2) (List.mem_map_of_mem hd)
        rw [ed] at one
        have bump : ∀ x, sumV (fun j => vec d.2 j * vec (List.replicate k 0 ++ x :: suf) j) w = sumV (fun j => vec d.2 j * vec (List.replicate (k + 1) 0 ++ suf) j) w + x := fun x => by
          rw [sumV_bump (u := fun j => vec d.2 j * vec (List.replicate k 0 ++ x :: suf) j) (v := fun j => vec d.2 j * vec (List.replicate (k + 1) 0 ++ suf) j) (k := k) (fun j ne => ?_) w, if_pos (show k < w by omega), one]
          · have e1 : vec (List.replicate k 0 ++ x :: suf) k = x := by
              rw [vec_app, if_neg (by rw [List.length_replicate]; omega), List.length_replicate, Nat.sub_self]
              rfl
            have e2 : vec (List.replicate (k + 1) 0 ++ suf) k = 0 := by
              rw [vec_app, if_pos (by rw [List.length_replicate]; omega), vec_reps]
            rw [e1, e2]
            grind
          · rcases Nat.lt_or_ge j k with hj | hj
            · have z : vec d.2 j = 0 := R.red.toU.ahead (d.1, vec d.2) (List.mem_map_of_mem hd) j (by show j < d.1; omega)
              show vec d.2 j * _ = vec d.2 j * _
              rw [z]
              grind
            · show vec d.2 j * vec _ j = vec d.2 j * vec _ j
              rw [cons_tail R j (by omega)]
        have iffG : ∀ x, Gk w A k (List.replicate k 0 ++ x :: suf) ↔ x = -(sumV (fun j => vec d.2 j * vec (List.replicate (k + 1) 0 ++ suf) j) w) := fun x => by
          have b := bump x
          constructor
          · intro g
            have g1 := g d hd (by omega)
            rw [b] at g1
            generalize sumV (fun j => vec d.2 j * vec (List.replicate (k + 1) 0 ++ suf) j) w = X at *
            grind
          · intro ex e he hle
            by_cases ee : e.1 = k
            · have same : e = d := by
                have := List.Pairwise.forall_of_forall_of_flip (l := A) (R := fun a b => a.1 = b.1 → a = b) (fun x _ _ => rfl) ?_ ?_
                · exact this he hd (ee.trans ed.symm)
                · exact (dis_of R hA).imp fun h z => absurd z h
                · exact (dis_of R hA).imp fun h z => absurd z.symm h
              rw [same, b, ex]
              grind
            · rw [dot_tail R he (v := List.replicate (k + 1) 0 ++ suf) fun j hj => cons_tail R j (by omega)]
              exact h e he (by omega)
        refine sumN_single (a := -(sumV (fun j => vec d.2 j * vec (List.replicate (k + 1) 0 ++ suf) j) w)) nd (all _) ?_ fun x _ ne => ?_
        · exact (count_ker nd all k _ (by omega)).1 ((iffG _).mpr rfl)
        · exact (count_ker nd all k _ (by omega)).2 fun g => ne ((iffG x).mp g)
      · rw [if_neg hl, List.length_append]
        have same : ∀ x, Gk w A k (List.replicate k 0 ++ x :: suf) := fun x e he hle => by
          have ne : e.1 ≠ k := fun z => hl (any_lead.mpr ⟨e, he, z⟩)
          rw [dot_tail R he (v := List.replicate (k + 1) 0 ++ suf) fun j hj => cons_tail R j (by omega)]
          exact h e he (by omega)
        rw [sumN_const (n := E.length ^ (spotsL k A).length) fun x _ => (count_ker nd all k _ (by omega)).1 (same x)]
        show _ = E.length ^ ((spotsL k A).length + 1)
        rw [Nat.pow_succ, Nat.mul_comm]
    · rw [sumN_const (n := 0) fun x _ => (count_ker nd all k _ (by omega)).2 fun g => h (down x g)]
      exact Nat.mul_zero _
theorem count_all {E : List F} (nd : E.Nodup) (all : ∀ x, x ∈ E) : (allC E w).countP (goodB w A) = E.length ^ (spotsL w A).length := by
  have h := (count_ker R hA nd all w [] (Nat.le_refl w)).1 fun d hd hl => by
    have := hA d hd
    omega
  have e : (fun r => goodB w A (r ++ [])) = goodB w A := funext fun r => by rw [List.append_nil]
  rw [e] at h
  exact h
end
end
end Lin
/-! zip of two things, each a list or a tuple, in any mix. -/
namespace ZM
open PySem PySem.Spec PyProof.Rows L2
def Sq (t : Bool) (K : PySem.W.Frag) (H : Hp) (a : Addr) (xs : List V) : Prop := match t with | true => SqT K H a xs | false => SqL K H a xs
def At (t : Bool) (h : Heap) (it l : Addr) (i : Nat) : Prop := match t with | true => h.IsTupleIter it l i | false => h.IsListIter it l i
def Stands (t : Bool) (h : Heap) (l : Addr) (items : Array Value) : Prop := match t with | true => h.IsTuple l items | false => h.IsList l items
def itObj (t : Bool) (l : Addr) : Obj := match t with | true => { cls := .type "tuple_iterator", data := .fields #[.ref l, .int 0 0] } | false => { cls := .type "list_iterator", data := .fields #[.ref l, .int 0 0] }
theorem draws {P : Program} {w : World} {A : Around} (t : Bool) (hh : A.handled = none) (it l : Addr) (ne : l ≠ it) (items : Array Value) : Draws P w A it [it, l] items.size (fun i v => items[i]? = some v) (fun i h => At t h it l i ∧ Stands t h l items) := by
  cases t with
  | true => exact Draws.tuple hh it l ne items
  | false => exact Draws.list hh it l ne items
theorem begins (t : Bool) (l : Addr) (items : Array Value) : Begins (.ref l) (itObj t l) fun h => Stands t h l items := by
  cases t with
  | true => exact begins_tuple l items
  | false => exact begins_list l items
theorem at_obj {t : Bool} {h : Heap} {it l : Addr} {i : Nat} (x : At t h it l i) : ∃ o, h.get? it = some o ∧ ∀ v, o.data ≠ .cell v := by
  cases t with
  | true =>
    obtain ⟨o, e, _, d⟩ := x
    exact ⟨o, e, fun v q => by rw [d] at q; cases q⟩
  | false =>
    obtain ⟨o, e, _, d⟩ := x
    exact ⟨o, e, fun v q => by rw [d] at q; cases q⟩
theorem at_keep {t : Bool} {h h' : Heap} {it l : Addr} {i : Nat} (x : At t h it l i) (k : ∀ o, h.get? it = some o → h'.get? it = some o) : At t h' it l i := by
  cases t with
  | true => exact Heap.IsTupleIter.at x k
  | false => exact Heap.IsListIter.at x k
theorem at_new {t : Bool} {h : Heap} {it l : Addr} (e : h.get? it = some (itObj t l)) : At t h it l 0 := by
  cases t with
  | true => exact ⟨_, e, rfl, rfl⟩
  | false => exact ⟨_, e, rfl, rfl⟩
section
variable {X : Cx} {pins : List (Addr × Obj)} {σ : List (Option V)} {H : Hp} {s : Shared} {t : Bool} {a : Addr} {xs ys : List V}
theorem stands (I : Inv X pins σ H s) (q : Sq t X.K H a xs) : ∃ its : List Value, Vals xs its ∧ Stands t s.heap a its.toArray ∧ a < s.heap.objs.size := by
  cases t with
  | true =>
    obtain ⟨its, rv, p, _⟩ := I.tuple q
    obtain ⟨o, ho, _⟩ := id p
    exact ⟨its, rv, p, Heap.lt_size ho⟩
  | false =>
    obtain ⟨its, rv, p, _⟩ := I.list q
    exact ⟨its, rv, p.isList, p.lt⟩
theorem sq_inj (I : Inv X pins σ H s) (q : Sq t X.K H a xs) (r : Sq t X.K H a ys) : xs = ys := by
  cases t with
  | true => exact I.tuple_inj q r
  | false => exact I.list_inj q r
end
/-- the two as they stand at each turn, the items in new pairs -/
def It2 (K : PySem.W.Frag) (t u : Bool) (a b : Addr) : It :=
  ⟨fun i H => ∃ xs ys : List V, Sq t K H a xs ∧ Sq u K H b ys ∧ i < min xs.length ys.length,
    fun i H v H' => ∃ T x y, v = .ref T ∧ H T = none ∧ H' = upd H T (.tup [x, y]) ∧ (∀ xs, Sq t K H a xs → xs[i]? = some x) ∧ ∀ ys, Sq u K H b ys → ys[i]? = some y,
    fun i H => ∃ xs ys : List V, Sq t K H a xs ∧ Sq u K H b ys ∧ i = min xs.length ys.length⟩
theorem turn2 {P : Program} {w : World} {K : PySem.W.Frag} {elts : List Expr} {kk : Nat} {tpos : Pos} {t u : Bool} {a b z TI TO i1 i2 : Addr} (D : ZipSep2 z TI TO i1 i2 [i1, a] [i2, b]) (n1 : a ≠ i1) (n2 : b ≠ i2) :
    Turn P w K (.Tuple elts kk tpos) (It2 K t u a b) [z, TI, TO, i1, i2] z (fun i h => IsZip h z TI TO .none ∧ IsTupOf2 h TI (.ref i1) (.ref i2) ∧ (∃ x y, IsTupOf2 h TO x y) ∧ At t h i1 a i ∧ At u h i2 b i) where
  mem := by simp
  obj := fun i h st c hc => by
    obtain ⟨k0, k1, ⟨x, y, k2⟩, k3, k4⟩ := st
    have e' : c = z ∨ (c = TI ∨ c = TO ∨ c = i1 ∨ c = i2) := by simpa using hc
    rcases e' with rfl | rfl | rfl | rfl | rfl
    · exact ⟨_, k0, fun v q => nomatch q⟩
    · exact ⟨_, k1, fun v q => nomatch q⟩
    · exact ⟨_, k2, fun v q => nomatch q⟩
    · exact at_obj k3
    · exact at_obj k4
  keep := fun i h h' st k => by
    obtain ⟨k0, k1, ⟨x, y, k2⟩, k3, k4⟩ := st
    exact ⟨k z (by simp) _ k0, k TI (by simp) _ k1, ⟨x, y, k TO (by simp) _ k2⟩, at_keep k3 fun o q => k i1 (by simp) o q, at_keep k4 fun o q => k i2 (by simp) o q⟩
  item := by
    intro X eP ew eK hc i pins s σ H E I hf st hg
    subst eP ew eK
    obtain ⟨k0, k1, k2, k3, k4⟩ := st
    obtain ⟨xs, ys, qx, qy, hi⟩ := hg
    obtain ⟨its, rv, p, _⟩ := stands I qx
    obtain ⟨jts, rw2, p2, _⟩ := stands I qy
    have l1 := rv.length
    have l2 := rw2.length
    have hh : X.A.in1.handled = none := I.ok.hd hc
    have G := GoesN.zip2 (elts := elts) (x1 := kk) (pos := tpos) D (draws (P := X.prog) (w := X.w) (A := X.A.in1) t hh i1 a n1 its.toArray) (draws (P := X.prog) (w := X.w) (A := X.A.in1) u hh i2 b n2 jts.toArray)
    have inH : ∀ c ∈ [z, TI, TO, i1, i2], c < s.heap.objs.size := fun c hcm => by
      have e' : c = z ∨ (c = TI ∨ c = TO ∨ c = i1 ∨ c = i2) := by simpa using hcm
      rcases e' with rfl | rfl | rfl | rfl | rfl
      · exact Heap.lt_size k0
      · exact Heap.lt_size k1
      · obtain ⟨_, _, k2⟩ := k2
        exact Heap.lt_size k2
      · obtain ⟨_, e, _⟩ := at_obj k3
        exact Heap.lt_size e
      · obtain ⟨_, e, _⟩ := at_obj k4
        exact Heap.lt_size e
    refine G.goes i s _ E (by simp only [List.size_toArray]; omega) ⟨k0, k1, k2, ⟨k3, p⟩, ⟨k4, p2⟩⟩ fun v h' tk hY st' hk htk => ?_
    obtain ⟨T, x, y, rfl, hT, hx, hy, ⟨o, ho, hoc, m, hod⟩⟩ := hY
    obtain ⟨j0, j1, j2, ⟨j3, _⟩, ⟨j4, _⟩⟩ := st'
    have hi1 : i < xs.length := by omega
    have hi2 : i < ys.length := by omega
    have vx : xs[i]? = some xs[i] := List.getElem?_eq_getElem hi1
    have vy : ys[i]? = some ys[i] := List.getElem?_eq_getElem hi2
    obtain ⟨x', hx', rx⟩ := rv.get vx
    obtain ⟨y', hy', ry⟩ := rw2.get vy
    have ex : x' = x := Option.some.inj (hx'.symm.trans (by simpa using hx))
    have ey : y' = y := Option.some.inj (hy'.symm.trans (by simpa using hy))
    subst ex
    subst ey
    have new : ObjOk X.prog X.w (upd H T (.tup [xs[i], ys[i]])) h' T (.tup [xs[i], ys[i]]) :=
      ⟨by show 2 ≤ sizeLine; decide, [x', y'], .cons rx (.cons ry .nil), ⟨o, ho, hoc, m, hod⟩⟩
    have I1 : Inv X pins σ (upd H T (.tup [xs[i], ys[i]])) { s with heap := h', toks := tk } :=
      I.turnedNew (t' := tk) (ch := [z, TI, TO, i1, i2]) (fun c ob hb q => hk c ob (fun hm => hb (by
        have e' : c = z ∨ c = TO ∨ c = i1 ∨ c = i2 := by simpa using hm
        rcases e' with rfl | rfl | rfl | rfl <;> simp)) q) hf hT new
    refine ⟨.ref T, _, I1, rfl, ⟨T, _, _, rfl, I.hok.fresh hT, rfl, fun l hl => by rw [sq_inj I hl qx]; exact vx, fun l hl => by rw [sq_inj I hl qy]; exact vy⟩, ⟨j0, j1, j2, j3, j4⟩, fun c hcm => ?_⟩
    rw [upd_ne (Nat.ne_of_lt (Nat.lt_of_lt_of_le (inH c hcm) hT))]
    exact (hf c hcm).1
  done := by
    intro X eP ew eK hc i pins s σ H E I hf st hg
    subst eP ew eK
    obtain ⟨k0, k1, k2, k3, k4⟩ := st
    obtain ⟨xs, ys, qx, qy, hi⟩ := hg
    obtain ⟨its, rv, p, _⟩ := stands I qx
    obtain ⟨jts, rw2, p2, _⟩ := stands I qy
    have l1 := rv.length
    have l2 := rw2.length
    have hh : X.A.in1.handled = none := I.ok.hd hc
    have G := GoesN.zip2 (elts := elts) (x1 := kk) (pos := tpos) D (draws (P := X.prog) (w := X.w) (A := X.A.in1) t hh i1 a n1 its.toArray) (draws (P := X.prog) (w := X.w) (A := X.A.in1) u hh i2 b n2 jts.toArray)
    have e : i = min its.toArray.size jts.toArray.size := by simp only [List.size_toArray]; omega
    subst e
    exact G.stops s _ E ⟨k0, k1, k2, ⟨k3, p⟩, ⟨k4, p2⟩⟩ fun h' tk hk htk => I.turnedL (t' := tk) (ch := [z, TI, TO, i1, i2]) (fun c ob hb q => hk c ob (fun hm => hb (by
        have e' : c = z ∨ c = TO ∨ c = i1 ∨ c = i2 := by simpa using hm
        rcases e' with rfl | rfl | rfl | rfl <;> simp)) q) hf
  self := fun _ _ _ _ _ st k => wpAny_pyIter_zip st.1 k
def iZip2 (K : PySem.W.Frag) (ta : TA) : TI := fun σ H R => ta σ H fun vs H1 => ∃ (t u : Bool) (a b : Addr) (xs ys : List V), vs = [.ref a, .ref b] ∧ Sq t K H1 a xs ∧ Sq u K H1 b ys ∧ R (It2 K t u a b) H1
theorem pi_zip2 {X : Cx} {e e2 : Expr} {ta : TA} {p pos tpos : Pos} {elts : List Expr} {kk : Nat} (hg : Gl X "zip") (hm : X.mg "zip" = none) (ha : PA X [e, e2] ta)
    (no_star : starEach [e, e2] X.env = (false, eval e X.env) :: starEach [e2] X.env := by rfl) (no_rest : (backTo pos (starEach [e2] X.env)).any (·.1) = false := by rfl) :
    PI X (.Tuple elts kk tpos) (.Call (.Name "zip" p) [e, e2] [] pos) (iZip2 X.K ta) := by
  constructor
  intro pins s σ H R I h
  refine Call_ (ld_blt I hg hm PyProof.Rows.boot_zip (callWith_type1 (thn (ha.run pos pins s σ H _ I h) fun us s1 got => ?_) no_star no_rest))
  obtain ⟨vs, H1, I1, r1, t, u, a, b, xs, ys, ex, qx, qy, q⟩ := got
  subst ex
  cases r1 with
  | cons r rr =>
    cases rr with
    | cons r' rr =>
      cases rr
      cases r
      cases r'
      obtain ⟨its, rv, p1, la⟩ := stands I1 qx
      obtain ⟨jts, rw2, p2, lb⟩ := stands I1 qy
      refine zip_begins2 (begins t a its.toArray) (begins u b jts.toArray) p1 p2 fun h' k0 k1 k2 k3 k4 hsz hk => wpAny_pyIter_zip k0 ?_
      have J2 : Inv X pins σ H1 { s1 with heap := h' } := I1.kept (t' := s1.toks) hk
      refine ⟨s1.heap.objs.size + 4, [s1.heap.objs.size + 4, s1.heap.objs.size + 2, s1.heap.objs.size + 3, s1.heap.objs.size, s1.heap.objs.size + 1], _, _, H1, rfl, J2,
        turn2 (zip_sep2 (fp1 := [a]) (fp2 := [b]) (fun c hc => by rw [List.mem_singleton.mp hc]; exact la) (fun c hc => by rw [List.mem_singleton.mp hc]; exact lb)) (Nat.ne_of_lt la) (Nat.ne_of_lt (Nat.lt_succ_of_lt lb)), ⟨k0, k1, ⟨_, _, k2⟩, at_new k3, at_new k4⟩, fun c hcm => ?_, q⟩
      have up : s1.heap.objs.size ≤ c := by
        simp only [List.mem_cons, List.not_mem_nil, or_false] at hcm
        rcases hcm with k | k | k | k | k <;> subst k <;> first | exact Nat.le_add_right .. | exact Nat.le_refl _
      exact I1.fpOk up (I1.hok.fresh up)
theorem walk2 {K : PySem.W.Frag} {t u : Bool} {a b : Addr} {xs ys : List V} {n : Nat} (hn : n = min xs.length ys.length) : Walk (It2 K t u a b) n (fun H => Sq t K H a xs ∧ Sq u K H b ys) (YPair (fun i => xs[i]?) (fun i => ys[i]?)) := by
  subst hn
  refine ⟨fun i _ hi q => ⟨xs, ys, q.1, q.2, hi⟩, fun _ q => ⟨xs, ys, q.1, q.2, rfl⟩, fun i H v H' _ q y => ?_⟩
  obtain ⟨T, m, n, e1, e2, e3, e4, e5⟩ := y
  exact ⟨T, m, n, e1, e2, e3, e4 xs q.1, e5 ys q.2⟩
/-! ### one list or tuple -/
def ItS (K : PySem.W.Frag) (t : Bool) (a : Addr) : It := match t with | true => Itt K a | false => Itl K a
def iSq (K : PySem.W.Frag) (tl : TE) : TI := fun σ H R => tl σ H fun x H1 => ∃ (t : Bool) (a : Addr) (xs : List V), x = .ref a ∧ Sq t K H1 a xs ∧ R (ItS K t a) H1
theorem pi_sq {X : Cx} {tg l : Expr} {tl : TE} (hl : PE X l tl) : PI X tg l (iSq X.K tl) := by
  constructor
  intro pins s σ H R I h
  refine thn (hl.run pins s σ H _ I h) fun v s1 got => ?_
  obtain ⟨x, H1, I1, r1, t, a, xs, e, hq, q⟩ := got
  subst e
  cases r1
  have up : ∀ b ∈ [s1.heap.objs.size], FpOk X pins H1 b := fun b hb => by
    rw [List.mem_singleton.mp hb]
    exact I1.fpOk (Nat.le_refl _) (I1.hok.fresh (Nat.le_refl _))
  have grow : ∀ (o : Obj), Inv X pins σ H1 { s1 with heap := s1.heap.push o } := fun o => I1.kept (t' := s1.toks) fun _ _ z => Heap.get?_push_of_some _ z
  cases t with
  | true =>
    obtain ⟨its, _, p, _⟩ := I1.tuple hq
    exact wpAny_pyIter_tuple (show s1.heap.IsTuple a its.toArray from p) ⟨_, _, _, _, H1, rfl, grow _, turn_tuple a _, ⟨_, Heap.get?_push_size _ rfl, rfl, rfl⟩, up, q⟩
  | false =>
    obtain ⟨its, _, p, _⟩ := I1.list hq
    exact wpAny_pyIter_list p.isList ⟨_, _, _, _, H1, rfl, grow _, turn_list a _, ⟨_, Heap.get?_push_size _ rfl, rfl, rfl⟩, up, q⟩
theorem walkS {K : PySem.W.Frag} {t : Bool} {a : Addr} {xs : List V} : Walk (ItS K t a) xs.length (fun H => Sq t K H a xs) (YAt xs) := by
  cases t with
  | true => exact walk_tup
  | false => exact walk_list
end ZM
/-! sorted of pairs whose firsts are unlike ints, whatever stands second. -/
namespace SrtL
open PySem PyProof.Rows Srt SrtO
section
variable {prog : Program} {w : World} {A : Around} {s : Shared} {E : Value → Shared → Prop}
def IsLd (h : Heap) (v : Value) (x : Int) : Prop := ∃ a o t y n, v = .ref a ∧ h.get? a = some o ∧ o.cls = .type "tuple" ∧ o.data = .seq #[.int x t, y] n
theorem IsLd.keeps {h h' : Heap} {v : Value} {x : Int} (p : IsLd h v x) (k : ∀ b o, h.get? b = some o → o.cls = .type "tuple" → h'.get? b = some o) : IsLd h' v x := by
  obtain ⟨a, o, t, y, n, e, ho, hc, hd⟩ := p
  exact ⟨a, o, t, y, n, e, k _ _ ho hc, hc, hd⟩
theorem firsts_ld {h : Heap} {k : Value → Int} : ∀ {vs : List Value}, (∀ v ∈ vs, IsLd h v (k v)) → ∃ fs : List Value, PySem.W.KatTups h vs fs ∧ fs.length = vs.length ∧ ∀ f ∈ fs, ∃ x t, f = Value.int x t
  | [], _ => ⟨[], PySem.W.KatTups.nil, rfl, fun _ hm => by simp at hm⟩
  | v :: vs, hp => by
    obtain ⟨fs, h1, h2, h3⟩ := firsts_ld (vs := vs) fun v' hm => hp v' (List.mem_cons_of_mem _ hm)
    obtain ⟨a, o, t, y, n, e, ho, hc, hd⟩ := hp v (List.mem_cons_self ..)
    subst e
    refine ⟨.int _ t :: fs, PySem.W.KatTups.cons ho hc hd rfl h1, by rw [List.length_cons, List.length_cons, h2], fun f hm => ?_⟩
    rcases List.mem_cons.mp hm with rfl | hm
    · exact ⟨_, t, rfl⟩
    · exact h3 f hm
def ltL (k : Value → Int) (v u : Value) : Bool := decide (k v < k u)
theorem swo_ld (k : Value → Int) : Swo (ltL k) := by
  refine ⟨fun x y h => ?_, fun x y z h1 h2 => ?_⟩
  · have a := of_decide_eq_true h
    exact decide_eq_false (by omega)
  · have a := of_decide_eq_false h1
    have b := of_decide_eq_false h2
    exact decide_eq_false (by omega)
theorem ld_cmp {vs : List Value} {k : Value → Int} (hp : ∀ v ∈ vs, IsLd s.heap v (k v)) (hu : ∀ v ∈ vs, ∀ u ∈ vs, k v = k u → v = u) : Cmp prog w A s (tuples' true) (fun p => p.1 ∈ vs) (lt2 (ltL k)) := by
  intro p q hm hm'
  have h1 := hp _ hm
  have h2 := hp _ hm'
  have h3 := hu _ hm _ hm'
  show wpAny (model prog w) A (keyLt' (tuples' true) p.1 q.1) (fun r s' => s' = s ∧ r = ltL k p.1 q.1) (fun _ _ => False) s
  unfold ltL
  generalize k p.1 = x at h1 h3 ⊢
  generalize k q.1 = x' at h2 h3 ⊢
  obtain ⟨a, o, t, y, n, e, ho, hc, hd⟩ := h1
  obtain ⟨a', o', t', y', n', e', ho', hc', hd'⟩ := h2
  rw [e, e'] at h3
  rw [e, e']
  refine PySem.W.kat_lt ho hd ho' hd' ?_
  show PySem.W.KatLex prog w A true (decide (2 < 2)) _ [(.int x t, .int x' t'), (y, y')] 0 s
  refine PySem.W.kat_cons (SeqAt.EqAt.int_int x t x' t' prog w _ _ ?_)
  refine PySem.W.kat_go (fun e1 => ?_) (fun e1 => ?_)
  · have ex : x = x' := by simpa using e1
    have ea := h3 ex
    injection ea with ea
    subst ea
    have eo : o = o' := Option.some.inj (ho.symm.trans ho')
    subst eo
    have ed := hd.symm.trans hd'
    injection ed with ed _
    have el := congrArg Array.toList ed
    have ey : y = y' := by
      injection el with _ el
      injection el
    subst ey
    refine PySem.W.kat_yes (PySem.W.kat_cons (SeqAt.EqAt.same y prog w _ _ ?_))
    refine PySem.W.kat_go (fun _ => ?_) (fun e2 => ?_)
    · exact PySem.W.kat_yes (PySem.W.kat_nil ⟨rfl, (decide_eq_false (by omega)).symm⟩)
    · simp at e2
  · have ex : ¬ x = x' := by simpa using e1
    exact PySem.W.kat_no (oneLt_int ⟨rfl, rfl⟩)
theorem ld_sortable {a : Addr} {vs : List Value} {k : Value → Int} (h0 : 0 < vs.length) (hp : ∀ v ∈ vs, IsLd s.heap v (k v)) (hu : ∀ v ∈ vs, ∀ u ∈ vs, k v = k u → v = u) (ha : ∀ o, s.heap.get? a = some o → o.cls ≠ .type "tuple") : SortableO prog w A s a vs (ltL k) := by
  intro h' keep
  have hp' : ∀ v ∈ vs, IsLd h' v (k v) := fun v hm => (hp v hm).keeps fun b o e c => keep b o (fun z => by subst z; exact ha o e c) e
  obtain ⟨fs, h1, h2, h3⟩ := firsts_ld hp'
  refine ⟨tuples' true, fun Q E hq => ?_, ld_cmp hp' hu⟩
  refine PySem.W.kat_kind (T := .type "int") h1 (by omega) (fun f hm => ?_) (by rfl) ?_
  · obtain ⟨x, t, rfl⟩ := h3 f hm
    exact PySem.W.Looks.now
  · have e : (Value.type "int" != Value.type "tuple") = true := by first | decide +kernel | rfl | decide
    rw [e]
    exact hq
theorem sorted_ld {l : Addr} {vs : List Value} {k : Value → Int} {Q : Value → Shared → Prop} (hl : s.heap.IsList l vs.toArray) (hz : vs.length ≤ sizeLine) (hp : ∀ v ∈ vs, IsLd s.heap v (k v)) (hu : ∀ v ∈ vs, ∀ u ∈ vs, k v = k u → v = u)
    (h : ∀ (h' : Heap) (d : Addr) (out : List Value), Srtd (ltL k) out → Stb (ltL k) out vs → (∀ b o, s.heap.get? b = some o → h'.get? b = some o) → s.heap.objs.size ≤ d → (∃ n, h'.get? d = some (seqObj "list" out.toArray n)) → Q (.ref d) { s with heap := h' }) :
    wpAny (model prog w) A (call (.builtin "sorted") [.ref l]) Q E s := by
  refine sorted_ord (swo_ld k) hl hz (fun h2 h₁ a ha kk => ?_) fun out hs hb => ?_
  · refine ld_sortable (s := { s with heap := h₁ }) (by omega) (fun v hm => (hp v hm).keeps fun b o e _ => (kk b o e).2) hu fun o e => ?_
    have e' : some o = some (seqObj "list" vs.toArray 0) := e.symm.trans ha
    cases e'
    intro c
    exact absurd (Value.type.inj c) (by decide)
  · exact h _ _ out hs hb (fun b o e => sortedAll_old e) (Nat.le_succ _) (sortedAll_at s.heap vs out.toArray)
end
end SrtL
namespace SrtL
theorem perm_lift {α β : Type} {e : α → β} {l m : List β} (h : l.Perm m) : ∀ L : List α, L.map e = m → ∃ L' : List α, L'.Perm L ∧ L'.map e = l := by
  induction h with
  | nil =>
    intro L hL
    exact ⟨L, List.Perm.refl _, hL⟩
  | cons x _ ih =>
    intro L hL
    cases L with
    | nil => cases hL
    | cons z Z =>
      injection hL with h1 h2
      obtain ⟨L', p, e'⟩ := ih Z h2
      exact ⟨z :: L', p.cons z, by rw [List.map_cons, h1, e']⟩
  | swap x y l =>
    intro L hL
    match L, hL with
    | z1 :: z2 :: Z, hL =>
      injection hL with h1 h2
      injection h2 with h2 h3
      exact ⟨z2 :: z1 :: Z, List.Perm.swap z1 z2 Z, by rw [List.map_cons, List.map_cons, h1, h2, h3]⟩
  | trans _ _ ih1 ih2 =>
    intro L hL
    obtain ⟨L2, p2, e2⟩ := ih2 L hL
    obtain ⟨L1, p1, e1⟩ := ih1 L2 e2
    exact ⟨L1, p1.trans p2, e1⟩
end SrtL
namespace L2
open PySem PySem.Spec PyProof.Rows
/-- sorted(xs), xs a list of pairs with unlike leads: a new list, leads rising -/
def rSortedLd (α : Type) (K : PySem.W.Frag) : List V → Hp → VK → Prop := fun vs H Q => ∃ (a : Addr) (L : List α) (e : α → V) (g : α → Int), vs = [V.ref a] ∧ SqL K H a (L.map e) ∧ (∀ x ∈ L, ∃ t y, e x = V.ref t ∧ SqT K H t [.int (g x), y]) ∧ (∀ x ∈ L, ∀ y ∈ L, g x = g y → x = y) ∧
  ∀ (L' : List α) (p : Addr), L'.Perm L → L'.Pairwise (fun x y => g x ≤ g y) → H p = none → Q (.ref p) (upd H p (.lst (L'.map e)))
section
variable {X : Cx}
open Classical in
theorem cr_sortedLd {α : Type} : CallR X (.builtin "sorted") (rSortedLd α X.K) := by
  intro pins s σ H vs us Q I r h
  obtain ⟨a, L, e, g, rfl, hs, hx, hu, q⟩ := h
  obtain ⟨its, rv, hl, hz⟩ := I.list hs
  obtain ⟨u, rfl, ru⟩ := vals1 r
  obtain rfl : u = Value.ref a := ru
  have hr : ∀ x ∈ L.map e, ∃ t, x = V.ref t := fun x m => by
    obtain ⟨z, hz, rfl⟩ := List.mem_map.mp m
    obtain ⟨t, _, e, _⟩ := hx z hz
    exact ⟨t, e⟩
  obtain ⟨e1, e2⟩ := refs_back rv hr
  -- the lead of a value
  let k : V → Int := fun v => if h : ∃ i, ∃ t y, v = V.ref t ∧ SqT X.K H t [.int i, y] then h.choose else 0
  have hk : ∀ x ∈ L, k (e x) = g x := fun x m => by
    have h := hx x m
    have h2 : ∃ i, ∃ t y, e x = V.ref t ∧ SqT X.K H t [.int i, y] := ⟨_, h⟩
    have e3 : k (e x) = h2.choose := dif_pos h2
    obtain ⟨t, y, et, hy⟩ := h2.choose_spec
    obtain ⟨t', y', et', hy'⟩ := h
    rw [et] at et'
    injection et' with et'
    subst et'
    have := I.tuple_inj hy hy'
    injection this with this
    injection this with this
    rw [e3, this]
  refine SrtL.sorted_ld (k := fun u => k (backV u)) hl.isList (by rw [← rv.length]; exact hz) (fun v hv => ?_) (fun v hv u hu2 ev => ?_) fun h' d out h1 h2 kp hd hn => ?_
  · obtain ⟨t, rfl⟩ := e2 v hv
    have hm : V.ref t ∈ L.map e := by rw [e1]; exact List.mem_map.mpr ⟨_, hv, rfl⟩
    obtain ⟨x, hxm, ex⟩ := List.mem_map.mp hm
    obtain ⟨t', y, et, ht⟩ := hx x hxm
    rw [ex] at et
    cases et
    obtain ⟨its2, r2, ⟨o, ho, hc, n, hd⟩, _⟩ := I.tuple ht
    obtain ⟨u1, u2, rfl, ri, rj⟩ := vals2 r2
    obtain ⟨t1, rfl⟩ := ri
    have ek : k (backV (Value.ref t)) = g x := by
      have := hk x hxm
      rw [ex] at this
      exact this
    refine ⟨t, o, t1, u2, n, rfl, ho, hc, ?_⟩
    rw [hd]
    show _ = Data.seq #[Value.int (k (backV (Value.ref t))) t1, u2] n
    rw [ek]
  · obtain ⟨t, rfl⟩ := e2 v hv
    obtain ⟨t', rfl⟩ := e2 u hu2
    have hm : V.ref t ∈ L.map e := by rw [e1]; exact List.mem_map.mpr ⟨_, hv, rfl⟩
    have hm' : V.ref t' ∈ L.map e := by rw [e1]; exact List.mem_map.mpr ⟨_, hu2, rfl⟩
    obtain ⟨x, hxm, ex⟩ := List.mem_map.mp hm
    obtain ⟨y, hym, ey⟩ := List.mem_map.mp hm'
    have ev : k (V.ref t) = k (V.ref t') := ev
    rw [← ex, ← ey, hk x hxm, hk y hym] at ev
    have z := hu x hxm y hym ev
    rw [z, ey] at ex
    injection ex with ex
    rw [ex]
  · have h3 : ∀ u ∈ out, ∃ a, u = Value.ref a := fun u hu => e2 u (h2.perm.mem_iff.mp hu)
    obtain ⟨n, hn⟩ := hn
    have hb : (out.map backV).Perm (L.map e) := by
      rw [e1]
      exact h2.perm.map backV
    obtain ⟨L', pL, eL⟩ := SrtL.perm_lift hb L rfl
    have hs2 : L'.Pairwise (fun x y => g x ≤ g y) := by
      have h4 : (out.map backV).Pairwise (fun x y => k x ≤ k y) := by
        rw [List.pairwise_map]
        refine List.Pairwise.imp (fun {x y} z => ?_) h1
        exact Int.not_lt.mp (of_decide_eq_false z)
      rw [← eL, List.pairwise_map] at h4
      refine List.Pairwise.imp_of_mem (fun {x y} mx my z => ?_) h4
      rw [hk x (pL.mem_iff.mp mx), hk y (pL.mem_iff.mp my)] at z
      exact z
    have q2 := q L' d pL hs2 (I.hok.fresh hd)
    rw [eL] at q2
    refine ⟨.ref d, upd H d (.lst (out.map backV)), I.laid (t' := s.toks) kp hd ⟨?_, out, n, vals_back h3, hn⟩, rfl, q2⟩
    rw [hb.length_eq, rv.length]
    rw [← rv.length]
    exact hz
end
end L2
/-! tuple * 0 and tuple * 1. -/
namespace L2
open PySem PySem.Spec PyProof.Rows
theorem tuple_mul0 (l : Addr) (items : Array Value) (n : Nat) (dd : Option Addr) (sl : Array (Option Value)) (u : Tok) (hi : items.isEmpty = false) :
    Meets (Builtin.«tuple.__mul__» ⟨[.ref l, .int 0 u], []⟩) (fun _ R s => s.heap.get? l = some { cls := .type "tuple", dict := dd, data := .seq items n, slots := sl } ∧
      R (.ok (.ret (Value.ref s.heap.objs.size))) { s with heap := s.heap.push { cls := Value.type "tuple", data := Data.seq #[] }, toks := s.toks }) :=
  .of_wp fun prog w A R s h => by
    obtain ⟨hp, g, d, tk, os⟩ := s
    obtain ⟨hl, h⟩ := h
    have f1 := AutoSeq1.idx_int
    have c1 : (items.isEmpty || (0 : Int) == 1) = false := by rw [hi]; rfl
    wp_walk using wpAny_loadPart' hl
    repeat (first
      | (refine wpAny_ite_false (decide_eq_false (by rw [c1]; exact Bool.false_ne_true)) ?_; wp_walk using wpAny_loadPart' hl))
    exact ⟨_, rfl, h⟩
theorem tuple_mul1 (l : Addr) (items : Array Value) (n : Nat) (dd : Option Addr) (sl : Array (Option Value)) (u : Tok) :
    Meets (Builtin.«tuple.__mul__» ⟨[.ref l, .int 1 u], []⟩) (fun _ R s => s.heap.get? l = some { cls := .type "tuple", dict := dd, data := .seq items n, slots := sl } ∧
      R (.ok (.ret (Value.ref l))) s) :=
  .of_wp fun prog w A R s h => by
    obtain ⟨hp, g, d, tk, os⟩ := s
    obtain ⟨hl, h⟩ := h
    have f1 := AutoSeq1.idx_int
    have c1 : (items.isEmpty || (1 : Int) == 1) = true := by cases items.isEmpty <;> rfl
    wp_walk using wpAny_loadPart' hl
    exact ⟨_, rfl, h⟩
/-- t * k, k none or more: told is a tuple, a new one or the one that was handed in -/
def rRepA (K : PySem.W.Frag) : R2 := fun x y H Q => ∃ (l : Addr) (k : Nat) (xs : List V), x = .ref l ∧ y = .int k ∧ SqT K H l xs ∧ xs ≠ [] ∧ k ≤ 1000 ∧ xs.length ≤ 1000 ∧ ∀ H' p, (∀ b o, H b = some o → H' b = some o) → SqT K H' p (List.replicate k xs).flatten → Q (.ref p) H'
section
variable {X : Cx}
theorem upd_keep {H : Hp} {p : Addr} {o : HO} (hp : H p = none) : ∀ b u, H b = some u → (upd H p o) b = some u := fun b u e => by
  rw [upd_ne (fun z => by rw [z, hp] at e; cases e)]
  exact e
theorem op_repA : OpR X (binaryOp .Mult) (rRepA X.K) := by
  intro pins s σ H x y v u Q I rx ry h
  obtain ⟨l, k, xs, rfl, rfl, hT, hne, h1, hz, q⟩ := h
  rcases Nat.lt_or_ge k 2 with h2 | h2
  · cases rx
    obtain ⟨t, rfl⟩ := ry
    obtain ⟨its, r, ⟨⟨cls, dd, data, sl⟩, ho, hc, n, hd⟩, hs⟩ := I.tuple hT
    simp only at hc hd
    subst hc hd
    have hle : its.length = xs.length := r.length.symm
    have hi : its.toArray.isEmpty = false := by
      cases its with
      | nil =>
        exfalso
        exact hne (List.eq_nil_of_length_eq_zero hle.symm)
      | cons a b => rfl
    have hk : k = 0 ∨ k = 1 := by omega
    rcases hk with rfl | rfl
    · refine wpAny_binaryOp_repeat_ref (T := "tuple") (U := "int") (by decide) ⟨_, ho, rfl⟩ (fun s' => typeIs_int s' _ t) noFill_tuple_mul F.fills_int_mul F.slot_int_rmul repeat_tuple F.slot_int_index.lookup
        (call_meets F.slot_int_rmul (typeIs_int s _ t) F.entry_int_rmul (F.args_int_rmul_2 _ _) (int_rmul_tuple _ t l its.toArray n dd sl)
          ⟨ho, rfl, ⟨_, ho, rfl⟩, call_meets F.slot_tuple_mul ⟨_, ho, rfl⟩ F.entry_tuple_mul (F.args_tuple_mul_2 _ _) (tuple_mul0 l its.toArray n dd sl t hi) ⟨ho, ?_⟩⟩)
      exact ⟨.ref s.heap.objs.size, _, I.laid (t' := s.toks) (o := .tup []) (fun b ob q => Heap.get?_push_of_some _ q) (Nat.le_refl _) ⟨Nat.zero_le _, _, .nil, IsTup.new _ _⟩, rfl, q _ _ (upd_keep (I.hok.fresh (Nat.le_refl _))) (.inl (.inl upd_same))⟩
    · refine wpAny_binaryOp_repeat_ref (T := "tuple") (U := "int") (by decide) ⟨_, ho, rfl⟩ (fun s' => typeIs_int s' _ t) noFill_tuple_mul F.fills_int_mul F.slot_int_rmul repeat_tuple F.slot_int_index.lookup
        (call_meets F.slot_int_rmul (typeIs_int s _ t) F.entry_int_rmul (F.args_int_rmul_2 _ _) (int_rmul_tuple _ t l its.toArray n dd sl)
          ⟨ho, rfl, ⟨_, ho, rfl⟩, call_meets F.slot_tuple_mul ⟨_, ho, rfl⟩ F.entry_tuple_mul (F.args_tuple_mul_2 _ _) (tuple_mul1 l its.toArray n dd sl t) ⟨ho, ?_⟩⟩)
      refine ⟨.ref l, H, I, rfl, q _ _ (fun b o e => e) ?_⟩
      have e : (List.replicate 1 xs).flatten = xs := by simp
      rw [e]
      exact hT
  · refine op_repT pins s σ H _ _ v u Q I rx ry ⟨l, (k : Int), xs, rfl, rfl, hT, hne, by omega, by omega, hz, fun p hp => q _ _ (upd_keep hp) (.inl (.inl ?_))⟩
    rw [Int.toNat_natCast]
    exact upd_same
end
end L2
/-! sum of a tuple of ints. -/
namespace L2
open PySem PySem.Spec PyProof.Rows
section
variable {X : Cx}
def rSumT (K : PySem.W.Frag) : List V → Hp → VK → Prop := fun vs H Q => ∃ (a : Addr) (ns : List Int), vs = [V.ref a] ∧ SqT K H a (ns.map V.int) ∧ Q (.int ns.sum) H
theorem cr_sumT (hc : X.calm = true) : CallR X (.builtin "sum") (rSumT X.K) := by
  intro pins s σ H vs us Q I r h
  obtain ⟨a, ns, rfl, hs, q⟩ := h
  obtain ⟨its, rv, hl, _⟩ := I.tuple hs
  rw [Vals.ref1 r]
  have hi := rv.ints
  obtain ⟨xs, hx⟩ := hi.allInts.items
  have hn : numsOf its.toArray.toList = ns := by rw [show its.toArray.toList = its from rfl, hi.numsOf]
  rw [hx] at hl hn
  rw [nums_intItems] at hn
  refine PySem.W.ktm_sumG (I.ok.hd hc) hl fun h' tk t' hk => ?_
  rw [preSum_eq, List.take_of_length_le (by simp), hn]
  exact ⟨.int _, H, I.kept hk, ⟨_, rfl⟩, q⟩
end
end L2
/-! Comprehensions over two, no conditions: how they are read over walks. -/
namespace L2
open PySem PySem.Spec PyProof.Rows
theorem wipe_in {σ : St} {i : Nat} : ∀ {vs : List Nat}, i ∈ vs → i < σ.length → (wipe σ vs)[i]? = some none
  | v :: vs, h, hl => by
    show ((wipe σ vs).set v none)[i]? = some none
    by_cases e : v = i
    · subst e
      rw [List.getElem?_set_self (by rw [wipe_length]; exact hl)]
    · rw [List.getElem?_set_ne e]
      rcases List.mem_cons.mp h with h | h
      · exact absurd h.symm e
      · exact wipe_in h hl
theorem wipe_eq {σ τ : St} {vs : List Nat} (hl : σ.length = τ.length) (h : ∀ i, i ∉ vs → σ[i]? = τ[i]?) : wipe σ vs = wipe τ vs := by
  refine List.ext_getElem? fun i => ?_
  by_cases hi : i ∈ vs
  · by_cases hlt : i < σ.length
    · rw [wipe_in hi hlt, wipe_in hi (by omega)]
    · rw [List.getElem?_eq_none (by rw [wipe_length]; omega), List.getElem?_eq_none (by rw [wipe_length]; omega)]
  · rw [wipe_out hi, wipe_out hi, h i hi]
theorem wipe_set {σ : St} {i : Nat} {v : Option V} {vs : List Nat} (h : i ∈ vs) : wipe (σ.set i v) vs = wipe σ vs :=
  wipe_eq (List.length_set ..) fun j hj => List.getElem?_set_ne (show i ≠ j from fun e => hj (by rw [← e]; exact h))
theorem wipe_wipe {σ : St} {vs : List Nat} : wipe (wipe σ vs) vs = wipe σ vs := wipe_eq (wipe_length ..) fun _ hi => wipe_out hi
section
variable {J J1 : It} {n n1 : Nat} {G G1 : Hp → Prop} {Y Y1 : Nat → Hp → V → Hp → Prop}
theorem two_out (w : Walk J n G Y) {g g1 : TG} {wi1 : TI} {te : TE} {vs vs1 : List Nat} {σ : St} {H1 : Hp} {D : Addr} {Qd : Hp → Prop} (Pv : Nat → Hp → Prop) (h0 : Pv 0 (upd H1 D (.lst []))) (hG : ∀ i H, i ≤ n → Pv i H → G H)
    (hs : ∀ i x H H', i < n → Pv i H → Y i H x H' → g x (wipe σ vs) H' fun σ2 H2 => wipe σ2 vs = wipe σ vs ∧ wi1 σ2 H2 fun J1 H4 => ∃ W1 : Nat → Nat → Hp → Prop, (∃ m, W1 0 m H4) ∧ ∀ j k H, W1 j k H →
      (J1.stop j H ∧ Pv (i + 1) H) ∨ (J1.go j H ∧ ∃ Nx1 : Hp → Prop, (∀ H', Nx1 H' → ∃ k', k' < k ∧ W1 (j + 1) k' H') ∧ ∀ x H', J1.yld j H x H' → g1 x (wipe σ2 vs1) H' fun σ3 H5 => wipe σ3 vs1 = wipe σ2 vs1 ∧ tYes σ3 H5 fun b H6 =>
        if b = true then te σ3 H6 fun y H7 => ∃ acc, H7 D = some (.lst acc) ∧ acc.length < sizeLine ∧ Nx1 (upd H7 D (.lst (acc ++ [y]))) else Nx1 H6)) (hd : ∀ H, Pv n H → Qd H) :
    ∃ W : Nat → Nat → Hp → Prop, (∃ m, W 0 m (upd H1 D (.lst []))) ∧ ∀ i m H, W i m H →
      (J.stop i H ∧ Qd H) ∨ (J.go i H ∧ ∃ Nx : Hp → Prop, (∀ H', Nx H' → ∃ m', m' < m ∧ W (i + 1) m' H') ∧ ∀ x H', J.yld i H x H' → g x (wipe σ vs) H' fun σ2 H2 => wipe σ2 vs = wipe σ vs ∧ tYes σ2 H2 fun b H3 =>
        if b = true then wi1 σ2 H3 fun J1 H4 => ∃ W1 : Nat → Nat → Hp → Prop, (∃ m, W1 0 m H4) ∧ ∀ j k H, W1 j k H →
          (J1.stop j H ∧ Nx H) ∨ (J1.go j H ∧ ∃ Nx1 : Hp → Prop, (∀ H', Nx1 H' → ∃ k', k' < k ∧ W1 (j + 1) k' H') ∧ ∀ x H', J1.yld j H x H' → g1 x (wipe σ2 vs1) H' fun σ3 H5 => wipe σ3 vs1 = wipe σ2 vs1 ∧ tYes σ3 H5 fun b H6 =>
            if b = true then te σ3 H6 fun y H7 => ∃ acc, H7 D = some (.lst acc) ∧ acc.length < sizeLine ∧ Nx1 (upd H7 D (.lst (acc ++ [y]))) else Nx1 H6)
        else Nx H3) := by
  refine ⟨fun i m H => m = n - i ∧ i ≤ n ∧ Pv i H, ⟨n, by simp, Nat.zero_le _, h0⟩, ?_⟩
  rintro i m H ⟨rfl, hi, p⟩
  have q := hG i H hi p
  by_cases hlt : i < n
  · refine .inr ⟨w.goes i H hlt q, Pv (i + 1), fun H' p' => ⟨n - (i + 1), by omega, rfl, hlt, p'⟩, fun x H' y => hs i x H H' hlt p (w.yields i H x H' hlt q y)⟩
  · have e : i = n := by omega
    subst e
    exact .inl ⟨w.stops H q, hd H p⟩
theorem two_in (w : Walk J1 n1 G1 Y1) {g1 : TG} {te : TE} {vs1 : List Nat} {σ2 : St} {H4 : Hp} {D : Addr} {Qs : Hp → Prop} (Pv : Nat → Hp → Prop) (h0 : Pv 0 H4) (hG : ∀ j H, j ≤ n1 → Pv j H → G1 H)
    (hs : ∀ j x H H', j < n1 → Pv j H → Y1 j H x H' → g1 x (wipe σ2 vs1) H' fun σ3 H5 => wipe σ3 vs1 = wipe σ2 vs1 ∧ te σ3 H5 fun y H7 => ∃ acc, H7 D = some (.lst acc) ∧ acc.length < sizeLine ∧ Pv (j + 1) (upd H7 D (.lst (acc ++ [y])))) (hd : ∀ H, Pv n1 H → Qs H) :
    ∃ W1 : Nat → Nat → Hp → Prop, (∃ m, W1 0 m H4) ∧ ∀ j k H, W1 j k H →
      (J1.stop j H ∧ Qs H) ∨ (J1.go j H ∧ ∃ Nx1 : Hp → Prop, (∀ H', Nx1 H' → ∃ k', k' < k ∧ W1 (j + 1) k' H') ∧ ∀ x H', J1.yld j H x H' → g1 x (wipe σ2 vs1) H' fun σ3 H5 => wipe σ3 vs1 = wipe σ2 vs1 ∧ tYes σ3 H5 fun b H6 =>
        if b = true then te σ3 H6 fun y H7 => ∃ acc, H7 D = some (.lst acc) ∧ acc.length < sizeLine ∧ Nx1 (upd H7 D (.lst (acc ++ [y]))) else Nx1 H6) := by
  refine ⟨fun j m H => m = n1 - j ∧ j ≤ n1 ∧ Pv j H, ⟨n1, by simp, Nat.zero_le _, h0⟩, ?_⟩
  rintro j m H ⟨rfl, hj, p⟩
  have q := hG j H hj p
  by_cases hlt : j < n1
  · refine .inr ⟨w.goes j H hlt q, Pv (j + 1), fun H' p' => ⟨n1 - (j + 1), by omega, rfl, hlt, p'⟩, fun x H' y => hs j x H H' hlt p (w.yields j H x H' hlt q y)⟩
  · have e : j = n1 := by omega
    subst e
    exact .inl ⟨w.stops H q, hd H p⟩
end
end L2
/-! Null columns over one bottom, and sums of such with small factors. -/
namespace Lin
open Lean.Grind St
section
variable {f : Int} {D : Fd f}
theorem null_htc {w m : Nat} {A : List (Ll D.F)} (hC : letI := D.fld; HtC D m (rowsOf (vecs A))) (hA : ∀ d ∈ A, d.1 < w) (hd : A.Pairwise (fun a b => a.1 ≠ b.1)) {ps : List Nat} (hps : ∀ p ∈ ps, p < w ∧ ∀ d ∈ A, d.1 ≠ p) : letI := D.fld; letI := D.dec; HtC D m (ps.map fun p => vec (nullL w p A)) := by
  letI := D.fld
  letI := D.dec
  obtain ⟨d, d0, d1, d2⟩ := hC
  have hm : ∀ e ∈ A, vec e.2 ∈ rowsOf (vecs A) := fun e he => List.mem_map_of_mem (f := fun x : Lr D.F => x.2) (List.mem_map_of_mem (f := fun a : Ll D.F => (a.1, vec a.2)) he)
  refine ⟨d, d0, d1, fun r hr => ?_⟩
  obtain ⟨p, hpm, rfl⟩ := List.mem_map.mp hr
  obtain ⟨hp, hs⟩ := hps p hpm
  have ex : ∀ j, ∃ z : Int, z.natAbs < 2 ^ m ∧ vec (nullL w p A) j = D.ofI z * (D.ofI d)⁻¹ := fun j => by
    by_cases h : ∃ e ∈ A, e.1 = j
    · obtain ⟨e, he, rfl⟩ := h
      obtain ⟨z, hz⟩ := d2 _ (hm e he)
      refine ⟨-(z p), by rw [Int.natAbs_neg]; exact (hz p).1, ?_⟩
      rw [nullL_lead hA hd he, (hz p).2, ofI_neg]
      generalize D.ofI d = A at *
      generalize D.ofI (z p) = B at *
      grind
    · have hj : ∀ e ∈ A, e.1 ≠ j := fun e he z => h ⟨e, he, z⟩
      rw [nullL_other hp hA hj]
      by_cases e : p = j
      · rw [if_pos e]
        refine ⟨d, d1, ?_⟩
        generalize D.ofI d = A at *
        grind
      · rw [if_neg e]
        refine ⟨0, Nat.two_pow_pos _, ?_⟩
        rw [ofI_zero]
        grind
  exact ⟨fun j => (ex j).choose, fun j => (ex j).choose_spec⟩
theorem sumS_ht (hf : IsF f) {m : Nat} {rs : List (Vec D.F)} (hC : HtC D m rs) {B : Nat → Vec D.F} {c : Nat → D.F} {sp : List Nat} (hB : ∀ s ∈ sp, B s ∈ rs) (hc : ∀ s ∈ sp, Sz D 7 (c s)) : letI := D.fld; Ht D (m + 8 * sp.length) (fun j => sumS (fun s => B s j * c s) sp) := by
  letI := D.fld
  obtain ⟨d, d0, d1, d2⟩ := hC
  have key : ∀ {sp : List Nat}, (∀ s ∈ sp, B s ∈ rs) → (∀ s ∈ sp, Sz D 7 (c s)) → ∃ (b : Int) (z : Nat → Int), D.ofI b ≠ 0 ∧ b.natAbs ≤ 2 ^ (8 * sp.length) ∧ ∀ j, (z j).natAbs < 2 ^ (m + 8 * sp.length) ∧ sumS (fun s => B s j * c s) sp = D.ofI (z j) * (D.ofI (d * b))⁻¹ := by
    intro sp
    induction sp with
    | nil =>
      intro _ _
      refine ⟨1, fun _ => 0, by rw [D.ofI_one]; exact one_ne, (by show 1 ≤ 2 ^ (8 * 0); decide), fun j => ⟨Nat.two_pow_pos _, ?_⟩⟩
      rw [ofI_zero]
      show (0 : D.F) = _
      grind
    | cons s l ih =>
      intro hB hc
      obtain ⟨b, z, b0, b1, hz⟩ := ih (fun x hx => hB x (List.mem_cons_of_mem _ hx)) fun x hx => hc x (List.mem_cons_of_mem _ hx)
      obtain ⟨y, hy⟩ := d2 _ (hB s (List.mem_cons_self ..))
      obtain ⟨s1, s2⟩ := hc s (List.mem_cons_self ..)
      obtain ⟨t0, te⟩ := num_div (D := D) hf (c s)
      generalize (D.enc (c s)).1 = t at *
      generalize (D.enc (c s)).2 = u at *
      have hp : (2 : Nat) ^ (8 * (l.length + 1)) = 2 ^ (8 * l.length) * 256 := by rw [Nat.mul_succ, Nat.pow_add]
      have hq : (2 : Nat) ^ (m + 8 * (l.length + 1)) = 2 ^ (m + 8 * l.length) * 256 := by rw [Nat.mul_succ, ← Nat.add_assoc, Nat.pow_add]
      refine ⟨b * u, fun j => y j * (t * b) + z j * u, ?_, ?_, fun j => ⟨?_, ?_⟩⟩
      · rw [D.ofI_mul]
        generalize D.ofI b = X at *
        generalize D.ofI u = Y at *
        grind
      · rw [Int.natAbs_mul, List.length_cons, hp]
        have := Nat.mul_le_mul b1 (Nat.le_of_lt s2)
        omega
      · show (y j * (t * b) + z j * u).natAbs < 2 ^ (m + 8 * (l.length + 1))
        rw [hq]
        have h3 := Int.natAbs_add_le (y j * (t * b)) (z j * u)
        rw [Int.natAbs_mul, Int.natAbs_mul, Int.natAbs_mul] at h3
        have e1 : t.natAbs * b.natAbs ≤ 128 * 2 ^ (8 * l.length) := Nat.mul_le_mul (Nat.le_of_lt s1) b1
        have e2 : (y j).natAbs * (t.natAbs * b.natAbs) ≤ 2 ^ m * (128 * 2 ^ (8 * l.length)) := Nat.mul_le_mul (Nat.le_of_lt (hy j).1) e1
        have e3 : 2 ^ m * (128 * 2 ^ (8 * l.length)) = 2 ^ (m + 8 * l.length) * 128 := by rw [Nat.pow_add, Nat.mul_comm 128, Nat.mul_assoc]
        have e4 : (z j).natAbs * u.natAbs < 2 ^ (m + 8 * l.length) * 128 := Nat.mul_lt_mul'' (hz j).1 s2
        omega
      · show B s j * c s + sumS (fun s => B s j * c s) l = D.ofI (y j * (t * b) + z j * u) * (D.ofI (d * (b * u)))⁻¹
        rw [(hz j).2, (hy j).2, te, D.ofI_add, D.ofI_mul, D.ofI_mul, D.ofI_mul, D.ofI_mul, D.ofI_mul, D.ofI_mul]
        generalize D.ofI d = A at *
        generalize D.ofI b = X at *
        generalize D.ofI u = Y at *
        generalize D.ofI t = Z at *
        generalize D.ofI (y j) = U at *
        generalize D.ofI (z j) = V at *
        grind
  obtain ⟨b, z, b0, b1, hz⟩ := key hB hc
  refine ⟨d * b, z, ?_, ?_, hz⟩
  · rw [D.ofI_mul]
    generalize D.ofI d = A at *
    generalize D.ofI b = X at *
    grind
  · rw [Int.natAbs_mul, Nat.pow_add]
    exact Nat.lt_of_le_of_lt (Nat.mul_le_mul_left _ b1) (Nat.mul_lt_mul_of_pos_right d1 (Nat.two_pow_pos _))
end
end Lin
/-! So many spots as places that lead not. -/
namespace Lin
theorem lead_cnt {F : Type} (k : Nat) : ∀ {A : List (Ll F)}, A.Pairwise (fun a b => a.1 ≠ b.1) → (A.filter fun d => decide (d.1 < k + 1)).length = (A.filter fun d => decide (d.1 < k)).length + if (A.any fun d => d.1 == k) = true then 1 else 0
  | [], _ => rfl
  | d :: A, h => by
    obtain ⟨h1, h2⟩ := List.pairwise_cons.mp h
    have ih := lead_cnt k h2
    rcases Nat.lt_trichotomy d.1 k with c | c | c
    · rw [List.filter_cons_of_pos (by rw [decide_eq_true_eq]; omega), List.filter_cons_of_pos (by rw [decide_eq_true_eq]; omega), List.any_cons, beq_false_of_ne (Nat.ne_of_lt c), Bool.false_or, List.length_cons, List.length_cons, ih]
      omega
    · have no : (A.any fun d => d.1 == k) = false := by
        rw [List.any_eq_false]
        intro b hb e
        exact h1 b hb (c.trans (eq_of_beq e).symm)
      rw [no] at ih
      rw [List.filter_cons_of_pos (by rw [decide_eq_true_eq]; omega), List.filter_cons_of_neg (by rw [decide_eq_true_eq]; omega), List.any_cons, no, c, beq_self_eq_true, List.length_cons, ih]
      rfl
    · rw [List.filter_cons_of_neg (by rw [decide_eq_true_eq]; omega), List.filter_cons_of_neg (by rw [decide_eq_true_eq]; omega), List.any_cons, beq_false_of_ne (by omega), Bool.false_or, ih]
theorem spots_below {F : Type} [Lean.Grind.Field F] [DecidableEq F] {A : List (Ll F)} (h : A.Pairwise (fun a b => a.1 ≠ b.1)) : ∀ k, (spotsL k A).length + (A.filter fun d => decide (d.1 < k)).length = k
  | 0 => by
    have e : (A.filter fun d => decide (d.1 < 0)) = [] := List.filter_eq_nil_iff.mpr fun d _ => by
      rw [decide_eq_true_eq]
      omega
    rw [e]
    rfl
  | k + 1 => by
    have ih := spots_below h k
    rw [spotsL_succ, lead_cnt k h]
    split
    · omega
    · rw [List.length_append]
      show _ + 1 + (_ + 0) = _
      omega
/-- so many spots as places that lead not -/
theorem spots_count {F : Type} [Lean.Grind.Field F] [DecidableEq F] {A : List (Ll F)} {w : Nat} (h : A.Pairwise (fun a b => a.1 ≠ b.1)) (hw : ∀ d ∈ A, d.1 < w) : (spotsL w A).length + A.length = w := by
  have h1 := spots_below h w
  rw [List.filter_eq_self.mpr fun d hd => decide_eq_true (hw d hd)] at h1
  exact h1
end Lin
/-! Whole rows by a prime and over fractions: the rank by the prime is no greater; what is led to nought over fractions is so by the prime. -/
namespace Lin
open Lean.Grind St
section
variable {p : Int} {D0 : Fd 0} {Dp : Fd p}
def vecI (l : List Int) : Nat → Int := fun j => l.getD j 0
def rowE {f : Int} (D : Fd f) (l : List Int) : List D.F := l.map D.ofI
theorem vec_rowE {f : Int} {D : Fd f} (l : List Int) (j : Nat) : letI := D.fld; vec (rowE D l) j = D.ofI (vecI l j) := by
  letI := D.fld
  unfold vec vecI rowE
  rw [List.getD_eq_getElem?_getD, List.getD_eq_getElem?_getD, List.getElem?_map]
  cases l[j]? with
  | none => exact ofI_zero.symm
  | some x => rfl
theorem ofI_all (hf : IsF p) (p0 : p ≠ 0) (c : Dp.F) : ∃ t : Int, Dp.ofI t = c := by
  letI := Dp.fld
  obtain ⟨_, e⟩ := num_div (D := Dp) hf c
  refine ⟨(Dp.enc c).1, ?_⟩
  rcases Dp.num c with ⟨h, _⟩ | ⟨_, h, _⟩
  · exact absurd h p0
  · rw [h, Dp.ofI_one] at e
    conv => rhs; rw [e]
    generalize Dp.ofI (Dp.enc c).1 = A
    grind
theorem lift_row (hf : IsF p) (p0 : p ≠ 0) {Z : List (List Int)} {v : Vec Dp.F} (h : letI := Dp.fld; Sp (Z.map fun l => vec (rowE Dp l)) v) : letI := D0.fld; ∃ u : Nat → Int, (∀ j, Dp.ofI (u j) = v j) ∧ Sp (Z.map fun l => vec (rowE D0 l)) (fun j => D0.ofI (u j)) := by
  letI := Dp.fld
  letI := D0.fld
  induction h with
  | zero => exact ⟨fun _ => 0, fun j => ofI_zero, Sp.zero.cast fun j => ofI_zero.symm⟩
  | step c h _ ih =>
    obtain ⟨u, hu, hs⟩ := ih
    obtain ⟨l, hl, rfl⟩ := List.mem_map.mp h
    obtain ⟨t, ht⟩ := ofI_all hf p0 c
    refine ⟨fun j => u j + t * vecI l j, fun j => ?_, (hs.lin (D0.ofI t) (.gen (List.mem_map_of_mem (f := fun l => vec (rowE D0 l)) hl))).cast fun j => ?_⟩
    · show Dp.ofI (u j + t * vecI l j) = _ + c * vec (rowE Dp l) j
      rw [Dp.ofI_add, Dp.ofI_mul, hu, ht, vec_rowE]
    · show _ = D0.ofI (u j + t * vecI l j)
      rw [D0.ofI_add, D0.ofI_mul, vec_rowE]
def sumZ (g : Nat → Int) : Nat → Int
  | 0 => 0
  | k + 1 => sumZ g k + g k
theorem ofI_sumZ {f : Int} {D : Fd f} (g : Nat → Int) : ∀ k, letI := D.fld; D.ofI (sumZ g k) = sumV (fun i => D.ofI (g i)) k
  | 0 => ofI_zero
  | k + 1 => by
    letI := D.fld
    have ih := ofI_sumZ (D := D) g k
    show D.ofI (sumZ g k + g k) = sumV (fun i => D.ofI (g i)) k + D.ofI (g k)
    rw [D.ofI_add, ih]
theorem sumV_congr {F : Type} [Field F] {g h : Nat → F} : ∀ {k : Nat}, (∀ i, i < k → g i = h i) → sumV g k = sumV h k
  | 0, _ => rfl
  | k + 1, e => by
    have ih := sumV_congr (k := k) fun i hi => e i (by omega)
    show sumV g k + g k = sumV h k + h k
    rw [ih, e k (by omega)]
theorem sumV_mulr {F : Type} [Field F] (g : Nat → F) (a : F) : ∀ k : Nat, sumV (fun i => g i * a) k = sumV g k * a
  | 0 => by
    show (0 : F) = 0 * a
    grind
  | k + 1 => by
    have ih := sumV_mulr g a k
    show sumV (fun i => g i * a) k + g k * a = (sumV g k + g k) * a
    rw [ih]
    generalize sumV g k = A
    grind
theorem sumZ_mul (g : Nat → Int) (a : Int) : ∀ k : Nat, sumZ (fun i => a * g i) k = a * sumZ g k
  | 0 => by
    show (0 : Int) = a * 0
    omega
  | k + 1 => by
    have ih := sumZ_mul g a k
    show sumZ (fun i => a * g i) k + a * g k = a * (sumZ g k + g k)
    rw [ih, Int.mul_add]
theorem sumZ_congr {g h : Nat → Int} : ∀ {k : Nat}, (∀ i, i < k → g i = h i) → sumZ g k = sumZ h k
  | 0, _ => rfl
  | k + 1, e => by
    have ih := sumZ_congr (k := k) fun i hi => e i (by omega)
    show sumZ g k + g k = sumZ h k + h k
    rw [ih, e k (by omega)]
/-- numbers over one bottom -/
theorem one_bottom {f : Int} {D : Fd f} (hf : IsF f) : ∀ l : List D.F, letI := D.fld; ∃ (e : Int) (z : Nat → Int), D.ofI e ≠ 0 ∧ ∀ j, vec l j = D.ofI (z j) * (D.ofI e)⁻¹
  | [] => by
    letI := D.fld
    refine ⟨1, fun _ => 0, by rw [D.ofI_one]; exact one_ne, fun j => ?_⟩
    rw [ofI_zero]
    show (0 : D.F) = _
    grind
  | x :: l => by
    letI := D.fld
    obtain ⟨e, z, e0, hz⟩ := one_bottom hf l
    obtain ⟨b0, ex⟩ := num_div (D := D) hf x
    generalize (D.enc x).1 = t at *
    generalize (D.enc x).2 = b at *
    refine ⟨e * b, fun j => match j with | 0 => e * t | j + 1 => z j * b, ?_, fun j => ?_⟩
    · rw [D.ofI_mul]
      generalize D.ofI e = A at *
      generalize D.ofI b = B at *
      grind
    · cases j with
      | zero =>
        show x = D.ofI (e * t) * (D.ofI (e * b))⁻¹
        rw [D.ofI_mul, D.ofI_mul]
        generalize D.ofI e = A at *
        generalize D.ofI b = B at *
        generalize D.ofI t = C at *
        grind
      | succ j =>
        show vec l j = D.ofI (z j * b) * (D.ofI (e * b))⁻¹
        rw [D.ofI_mul, D.ofI_mul, hz j]
        generalize D.ofI e = A at *
        generalize D.ofI b = B at *
        generalize D.ofI (z j) = C at *
        grind
theorem sumV_pick {F : Type} [Field F] {g : Nat → F} {l k : Nat} (hl : l < k) (h : ∀ i, i < k → i ≠ l → g i = 0) : sumV g k = g l := by
  induction k with
  | zero => omega
  | succ k ih =>
    show sumV g k + g k = g l
    by_cases e : l = k
    · subst e
      have z : sumV g l = 0 := by
        have key : ∀ m, m ≤ l → sumV g m = 0 := fun m => by
          induction m with
          | zero => intro _; rfl
          | succ m ihm =>
            intro hm
            show sumV g m + g m = 0
            rw [ihm (by omega), h m (by omega) (by omega)]
            grind
        exact key l (Nat.le_refl _)
      rw [z]
      grind
    · rw [ih (by omega) (fun i hi ne => h i (by omega) ne), h k (by omega) (by omega)]
      grind
theorem sp_sum {F : Type} [Field F] {rs : List (Vec F)} {U : Nat → Vec F} {c : Nat → F} : ∀ {k : Nat}, (∀ i, i < k → Sp rs (U i)) → Sp rs (fun j => sumV (fun i => U i j * c i) k)
  | 0, _ => .zero
  | k + 1, h => by
    have ih := sp_sum (c := c) (k := k) fun i hi => h i (by omega)
    refine (ih.lin (c k) (h k (by omega))).cast fun j => ?_
    show _ = sumV (fun i => U i j * c i) k + U k j * c k
    generalize sumV (fun i => U i j * c i) k = A
    grind
theorem no_relation (hf : IsF p) (p0 : p ≠ 0) {k : Nat} {U : Nat → Nat → Int} {q : Nat → Nat} (hU : letI := Dp.fld; ∀ i l, i < k → l < k → Dp.ofI (U i (q l)) = if i = l then 1 else 0) {s : Nat} (hs : s < k) : ∀ (n : Nat) (z : Nat → Int), (z s).natAbs ≤ n → z s ≠ 0 → (∀ j, sumZ (fun i => U i j * z i) k = 0) → False := by
  letI := Dp.fld
  have p2 : 2 ≤ p := by
    rcases hf with h | ⟨m, hm, rfl⟩
    · exact absurd h p0
    · have := prime_big m hm
      omega
  intro n
  induction n with
  | zero => intro z h0 h1 _; omega
  | succ n ih =>
    intro z hn h1 hz
    have dv : ∀ l, l < k → p ∣ z l := fun l hl => by
      have e := congrArg Dp.ofI (hz (q l))
      rw [ofI_sumZ, ofI_zero] at e
      rw [sumV_pick hl fun i hi ne => by
        rw [Dp.ofI_mul, hU i l hi hl, if_neg ne]
        grind] at e
      rw [Dp.ofI_mul, hU l l hl hl, if_pos rfl] at e
      have e2 : Dp.ofI (z l) = 0 := by grind
      have e3 := (Dp.ofI0 _).mp e2
      rw [if_neg p0] at e3
      exact Int.dvd_of_emod_eq_zero e3
    refine ih (fun i => z i / p) ?_ ?_ fun j => ?_
    · obtain ⟨y, hy⟩ := dv s hs
      show (z s / p).natAbs ≤ n
      rw [hy, Int.mul_ediv_cancel_left _ p0]
      rw [hy, Int.natAbs_mul] at hn
      have : y.natAbs ≠ 0 := fun e => h1 (by rw [hy, Int.natAbs_eq_zero.mp e, Int.mul_zero])
      have h2 : 2 ≤ p.natAbs := by omega
      have := Nat.mul_le_mul_right y.natAbs h2
      omega
    · obtain ⟨y, hy⟩ := dv s hs
      show z s / p ≠ 0
      rw [hy, Int.mul_ediv_cancel_left _ p0]
      intro e
      exact h1 (by rw [hy, e, Int.mul_zero])
    · have e : sumZ (fun i => U i j * z i) k = p * sumZ (fun i => U i j * (z i / p)) k := by
        rw [← sumZ_mul]
        refine sumZ_congr fun i hi => ?_
        obtain ⟨y, hy⟩ := dv i hi
        rw [hy, Int.mul_ediv_cancel_left _ p0, Int.mul_left_comm]
      rw [hz j] at e
      rcases Int.mul_eq_zero.mp e.symm with h | h
      · exact absurd h p0
      · exact h
/-- the rank by a prime is no greater -/
theorem rank_le (hf : IsF p) (p0 : p ≠ 0) {w : Nat} {Z : List (List Int)} (hw : ∀ l ∈ Z, l.length = w) : letI := Dp.fld; letI := Dp.dec; letI := D0.fld; letI := D0.dec; (redL w (Z.map (rowE Dp))).length ≤ (redL w (Z.map (rowE D0))).length := by
  letI := Dp.fld
  letI := Dp.dec
  letI := D0.fld
  letI := D0.dec
  have wp : ∀ l ∈ Z.map (rowE Dp), l.length = w := fun l hl => by
    obtain ⟨x, hx, rfl⟩ := List.mem_map.mp hl
    exact (List.length_map ..).trans (hw x hx)
  have w0 : ∀ l ∈ Z.map (rowE D0), l.length = w := fun l hl => by
    obtain ⟨x, hx, rfl⟩ := List.mem_map.mp hl
    exact (List.length_map ..).trans (hw x hx)
  have RA := (redL_ok wp).1
  have RR := (redL_ok w0).1
  generalize redL w (Z.map (rowE Dp)) = A at *
  generalize redL w (Z.map (rowE D0)) = R at *
  refine Nat.le_of_not_lt fun hlt => ?_
  have lifts : ∀ i, ∃ u : Nat → Int, i < A.length → (∀ j, Dp.ofI (u j) = vec (A.getD i (0, [])).2 j) ∧ Sp (rowsOf (vecs R)) (fun j => D0.ofI (u j)) := fun i => by
    by_cases hi : i < A.length
    · have em : A.getD i (0, []) ∈ A := by
        rw [List.getD_eq_getElem?_getD, List.getElem?_eq_getElem hi]
        exact List.getElem_mem hi
      have h1 := RA.of _ em
      have h2 : Sp (Z.map fun l => vec (rowE Dp l)) (vec (A.getD i (0, [])).2) := by
        have e : sps (Z.map (rowE Dp)) = Z.map fun l => vec (rowE Dp l) := by
          show (Z.map (rowE Dp)).map vec = _
          rw [List.map_map]
          rfl
        rw [← e]
        exact h1
      obtain ⟨u, hu, hs⟩ := lift_row (D0 := D0) hf p0 h2
      refine ⟨u, fun _ => ⟨hu, hs.trans fun r hr => ?_⟩⟩
      obtain ⟨l, hl, rfl⟩ := List.mem_map.mp hr
      exact RR.into _ (List.mem_map_of_mem (f := rowE D0) hl)
    · exact ⟨fun _ => 0, fun h => absurd h hi⟩
  have hU : ∀ i, i < A.length → (∀ j, Dp.ofI ((lifts i).choose j) = vec (A.getD i (0, [])).2 j) ∧ Sp (rowsOf (vecs R)) (fun j => D0.ofI ((lifts i).choose j)) := fun i => (lifts i).choose_spec
  obtain ⟨U, hU⟩ : ∃ U : Nat → Nat → Int, ∀ i, i < A.length → (∀ j, Dp.ofI (U i j) = vec (A.getD i (0, [])).2 j) ∧ Sp (rowsOf (vecs R)) (fun j => D0.ofI (U i j)) := ⟨fun i => (lifts i).choose, hU⟩
  have lM : ∀ l ∈ R.map (fun d => (List.range A.length).map fun i => D0.ofI (U i d.1)), l.length = A.length := fun l hl => by
    obtain ⟨d, _, rfl⟩ := List.mem_map.mp hl
    rw [List.length_map, List.length_range]
  obtain ⟨RM, eM⟩ := redL_ok lM
  have leadM : ∀ d ∈ redL A.length (R.map (fun d => (List.range A.length).map fun i => D0.ofI (U i d.1))), d.1 < A.length := fun d hd => by
    have h : d.1 ∈ (redL A.length (R.map (fun d => (List.range A.length).map fun i => D0.ofI (U i d.1)))).map (·.1) := List.mem_map_of_mem hd
    rw [eM] at h
    obtain ⟨b, hb, z⟩ := List.mem_map.mp h
    rw [← z]
    exact ((steps_ok _ 0 _ (Nat.zero_add _) (left_start lM)).2.1 b hb).2.1
  have cM : (redL A.length (R.map (fun d => (List.range A.length).map fun i => D0.ofI (U i d.1)))).length ≤ R.length := by
    have h1 := congrArg List.length eM
    rw [List.length_map, List.length_map] at h1
    have h2 := (steps_ok _ 0 _ (Nat.zero_add _) (left_start lM)).2.2.2.2
    rw [List.length_map] at h2
    omega
  have dM : (redL A.length (R.map (fun d => (List.range A.length).map fun i => D0.ofI (U i d.1)))).Pairwise (fun a b => a.1 ≠ b.1) := by
    have h := RM.red.toU.dist
    rw [List.pairwise_map] at h
    exact h
  generalize redL A.length (R.map (fun d => (List.range A.length).map fun i => D0.ofI (U i d.1))) = M at *
  have hsp := spots_count dM leadM
  obtain ⟨s, hs⟩ : ∃ s, s ∈ spotsL A.length M := by
    cases h : spotsL A.length M with
    | nil =>
      rw [h] at hsp
      have : ([] : List Nat).length = 0 := rfl
      omega
    | cons a _ => exact ⟨a, List.mem_cons_self ..⟩
  obtain ⟨hsA, hsn⟩ := spots_at.mp hs
  have hc1 : vec (nullL A.length s M) s = 1 := by
    rw [nullL_other hsA leadM hsn, if_pos rfl]
  have hc0 : ∀ d ∈ R, sumV (fun i => D0.ofI (U i d.1) * vec (nullL A.length s M) i) A.length = 0 := fun d hd => by
    have h := null_dot RM leadM hsA hsn (List.mem_map_of_mem (f := fun d : Ll D0.F => (List.range A.length).map fun i => D0.ofI (U i d.1)) hd)
    rw [dotN_sum] at h
    rw [← h]
    refine sumV_congr fun i hi => ?_
    have e : vec ((List.range A.length).map fun i => D0.ofI (U i d.1)) i = D0.ofI (U i d.1) := by
      unfold vec
      rw [List.getD_eq_getElem?_getD, List.getElem?_map, List.getElem?_range hi]
      rfl
    rw [e]
  generalize nullL A.length s M = c at *
  -- the sum is nought at all leads, and so everywhere
  have hv : ∀ j, sumV (fun i => D0.ofI (U i j) * vec c i) A.length = 0 := fun j => by
    have hsp : Sp (rowsOf (vecs R)) (fun j => sumV (fun i => D0.ofI (U i j) * vec c i) A.length) := sp_sum (U := fun i j => D0.ofI (U i j)) fun i hi => (hU i hi).2
    rw [← RR.red.sum hsp j]
    refine sumL_none fun a ha => ?_
    obtain ⟨d, hd, rfl⟩ := List.mem_map.mp ha
    have e := hc0 d hd
    show sumV (fun i => D0.ofI (U i d.1) * vec c i) A.length * _ = 0
    rw [e]
    grind
  obtain ⟨e, z, e0, hz⟩ := one_bottom (D := D0) (.inl rfl) c
  have hzs : z s ≠ 0 := fun h => by
    have h1 := hz s
    rw [hc1, h, ofI_zero] at h1
    exact one_ne (F := D0.F) (by grind)
  have hZ : ∀ j, sumZ (fun i => U i j * z i) A.length = 0 := fun j => by
    have h1 : D0.ofI (sumZ (fun i => U i j * z i) A.length) = 0 := by
      rw [ofI_sumZ]
      have h2 : sumV (fun i => D0.ofI (U i j * z i)) A.length = sumV (fun i => D0.ofI (U i j) * vec c i * D0.ofI e) A.length := sumV_congr fun i _ => by
        rw [D0.ofI_mul, hz i]
        generalize D0.ofI e = X at *
        generalize D0.ofI (z i) = Y at *
        generalize D0.ofI (U i j) = W at *
        grind
      rw [h2, sumV_mulr, hv j]
      grind
    have h3 := (D0.ofI0 _).mp h1
    rw [if_pos rfl] at h3
    exact h3
  refine no_relation (Dp := Dp) hf p0 (k := A.length) (U := U) (q := fun l => (A.getD l (0, [])).1) (fun i l hi hl => ?_) hsA _ z (Nat.le_refl _) hzs hZ
  rw [(hU i hi).1]
  have mi : A.getD i (0, []) ∈ A := by
    rw [List.getD_eq_getElem?_getD, List.getElem?_eq_getElem hi]
    exact List.getElem_mem hi
  have ml : A.getD l (0, []) ∈ A := by
    rw [List.getD_eq_getElem?_getD, List.getElem?_eq_getElem hl]
    exact List.getElem_mem hl
  have vi : ((A.getD i (0, [])).1, vec (A.getD i (0, [])).2) ∈ vecs A := List.mem_map_of_mem (f := fun a : Ll Dp.F => (a.1, vec a.2)) mi
  have vl : ((A.getD l (0, [])).1, vec (A.getD l (0, [])).2) ∈ vecs A := List.mem_map_of_mem (f := fun a : Ll Dp.F => (a.1, vec a.2)) ml
  by_cases h : i = l
  · subst h
    rw [if_pos rfl]
    exact RA.red.one _ vi
  · rw [if_neg h]
    refine RA.red.alone _ vi _ vl ?_
    have hd := RA.red.toU.dist
    rw [List.pairwise_map] at hd
    have hp := List.pairwise_iff_getElem.mp hd
    have gi : A.getD i (0, []) = A[i] := by rw [List.getD_eq_getElem?_getD, List.getElem?_eq_getElem hi]; rfl
    have gl : A.getD l (0, []) = A[l] := by rw [List.getD_eq_getElem?_getD, List.getElem?_eq_getElem hl]; rfl
    rw [gi, gl]
    rcases Nat.lt_or_gt_of_ne h with c | c
    · exact hp i l hi hl c
    · exact fun e => hp l i hl hi c e.symm
/-- what is led to nought over fractions is so by the prime, taken whole -/
theorem whole_mod {w : Nat} {r : List Int} {l : List D0.F} {m : List Dp.F} {part : Int} {y : Nat → Int} (h0 : letI := D0.fld; letI := D0.dec; dotN (rowE D0 r) l w = 0) (hy : letI := D0.fld; ∀ j, j < w → D0.ofI (y j) = vec l j * D0.ofI part) (hm : letI := Dp.fld; ∀ j, j < w → vec m j = Dp.ofI (y j)) :
    letI := Dp.fld; letI := Dp.dec; dotN (rowE Dp r) m w = 0 := by
  letI := Dp.fld
  letI := Dp.dec
  letI := D0.fld
  letI := D0.dec
  rw [dotN_sum] at h0 ⊢
  have e0 : sumZ (fun j => vecI r j * y j) w = 0 := by
    have h1 : D0.ofI (sumZ (fun j => vecI r j * y j) w) = 0 := by
      rw [ofI_sumZ]
      have h2 : sumV (fun j => D0.ofI (vecI r j * y j)) w = sumV (fun j => vec (rowE D0 r) j * vec l j * D0.ofI part) w := sumV_congr fun j hj => by
        rw [D0.ofI_mul, hy j hj, vec_rowE]
        generalize D0.ofI part = A
        grind
      rw [h2, sumV_mulr, h0]
      grind
    have h3 := (D0.ofI0 _).mp h1
    rw [if_pos rfl] at h3
    exact h3
  have h4 := congrArg Dp.ofI e0
  rw [ofI_sumZ, ofI_zero] at h4
  rw [← h4]
  refine sumV_congr fun j hj => ?_
  rw [Dp.ofI_mul, hm j hj, vec_rowE]
end
end Lin
/-! enumerate of one thing, a list or a tuple. -/
namespace ZM
open PySem PySem.Spec PyProof.Rows L2
section
open PySem.Sem (wp)
theorem meets_enum1 {v : Value} {o : Obj} {H : Heap → Prop} (B : Begins v o H) :
    Meets (Builtin.«enumerate.__new__» ⟨[.type "enumerate", v], []⟩) (fun _ R s => H s.heap ∧
      R (.ok (.ret (.ref (s.heap.push o).objs.size))) { s with heap := (s.heap.push o).push { cls := .type "enumerate", data := .fields #[.none, .bool false, .ref s.heap.objs.size, rawInt 0, .none, .none] } }) :=
  .of_wp fun prog w A R s h => by
    obtain ⟨hp, g, d, tk, os⟩ := s; obtain ⟨h1, h⟩ := h
    have hsub := sub_enumerate
    have q1 : ∀ {A' : Around} {E : Value → Shared → Prop} {Q : Value → Shared → Prop}, Q (.ref hp.objs.size) ⟨hp.push o, g, d, tk, os⟩ → wpAny (model prog w) A' (pyIter v) Q E ⟨hp, g, d, tk, os⟩ :=
      fun q => B.iter prog w _ _ ⟨hp, g, d, tk, os⟩ _ h1 q
    wp_walk using q1
    refine wpAny_stack_any fun st => wpAny_pure ?_
    split
    · rename_i c _ _ _ _ _
      cases (c == Value.type "enumerate")
      · wp_walk using q1
        exact ⟨_, rfl, h⟩
      · wp_walk using q1
        exact ⟨_, rfl, h⟩
    · wp_walk using q1
      exact ⟨_, rfl, h⟩
theorem enum_begins1 {prog : Program} {w : World} {A : Around} {E : Value → Shared → Prop} {s : Shared} {v : Value} {o : Obj} {H : Heap → Prop} {Q : Value → Shared → Prop} (B : Begins v o H) (h1 : H s.heap)
    (h : ∀ h', IsEnum h' (s.heap.objs.size + 1) s.heap.objs.size 0 .none → h'.get? s.heap.objs.size = some o → h'.objs.size = s.heap.objs.size + 2 →
      (∀ b o, s.heap.get? b = some o → h'.get? b = some o) → Q (.ref (s.heap.objs.size + 1)) { s with heap := h' }) :
    wpAny (model prog w) A (call (.type "enumerate") [v]) Q E s := by
  refine callType_new F.called_enumerate (by decide) (F.typeCall_enumerate_1 _) (F.newCall_enumerate_1 _) (fun obj => F.args_object_init_2 obj _) F.entry_enumerate_new
    (meets_enum1 B) ⟨h1, ?_⟩
  have hz : (s.heap.push o).objs.size = s.heap.objs.size + 1 := Heap.size_push ..
  show _ ∧ _
  rw [hz]
  have he : IsEnum ((s.heap.push o).push { cls := .type "enumerate", data := .fields #[.none, .bool false, .ref s.heap.objs.size, rawInt 0, .none, .none] }) (s.heap.objs.size + 1) s.heap.objs.size 0 .none := by
    have := Heap.get?_push_size (s.heap.push o) (o := { cls := .type "enumerate", data := .fields #[.none, .bool false, .ref s.heap.objs.size, rawInt 0, .none, .none] }) rfl
    rw [hz] at this; exact this
  refine ⟨⟨_, he, rfl⟩, h _ he (Heap.get?_push_of_some _ (Heap.get?_push_size _ B.free)) (by rw [Heap.size_push, hz]) fun b o x => Heap.get?_push_of_some _ (Heap.get?_push_of_some _ x)⟩
end
/-- the one as it stands at each turn, each item in a new pair -/
def ItE (K : PySem.W.Frag) (t : Bool) (a : Addr) : It :=
  ⟨fun i H => ∃ (xs : List V), Sq t K H a xs ∧ i < xs.length, fun i H v H' => ∃ T x, v = .ref T ∧ H T = none ∧ H' = upd H T (.tup [.int (i : Nat), x]) ∧ ∀ xs, Sq t K H a xs → xs[i]? = some x, fun i H => ∃ xs : List V, Sq t K H a xs ∧ i = xs.length⟩
theorem turnE {P : Program} {w : World} {K : PySem.W.Frag} {elts : List Expr} {kk : Nat} {tpos : Pos} {t : Bool} {a e it : Addr} (n1 : a ≠ it) (hei : e ≠ it) (hea : e ≠ a) :
    Turn P w K (.Tuple elts kk tpos) (ItE K t a) [e, it] e (fun i h => (∃ old, IsEnum h e it (0 + (i : Int)) old) ∧ At t h it a i) where
  mem := by simp
  obj := fun i h st c hc => by
    obtain ⟨⟨old, k0⟩, k1⟩ := st
    have e' : c = e ∨ c = it := by simpa using hc
    rcases e' with rfl | rfl
    · exact ⟨_, k0, fun v q => nomatch q⟩
    · exact at_obj k1
  keep := fun i h h' st k => by
    obtain ⟨⟨old, k0⟩, k1⟩ := st
    exact ⟨⟨old, k e (by simp) _ k0⟩, at_keep k1 fun o q => k it (by simp) o q⟩
  item := by
    intro X eP ew eK hc i pins s σ H E I hf st hg
    subst eP ew eK
    obtain ⟨k0, k1⟩ := st
    obtain ⟨xs, qx, hi⟩ := hg
    obtain ⟨its, rv, p, _⟩ := stands I qx
    have l1 := rv.length
    have hh : X.A.in1.handled = none := I.ok.hd hc
    have G := GoesN.enumFrom (A := X.A) (elts := elts) (x1 := kk) (pos := tpos) 0 (draws (P := X.prog) (w := X.w) (A := X.A.in1) t hh it a n1 its.toArray) e hei (by simp [hei, hea]) (by simp)
    have inH : ∀ c ∈ [e, it], c < s.heap.objs.size := fun c hcm => by
      have e' : c = e ∨ c = it := by simpa using hcm
      rcases e' with rfl | rfl
      · obtain ⟨_, k0⟩ := k0
        exact Heap.lt_size k0
      · obtain ⟨_, ee, _⟩ := at_obj k1
        exact Heap.lt_size ee
    refine G.goes i s _ E (by simp only [List.size_toArray]; omega) ⟨k0, k1, p⟩ fun v h' tk hY st' hk htk => ?_
    obtain ⟨T, tt, x, rfl, hT, hx, ⟨o, ho, hoc, m, hod⟩⟩ := hY
    obtain ⟨j0, j1, _⟩ := st'
    have vx : xs[i]? = some xs[i] := List.getElem?_eq_getElem hi
    obtain ⟨x', hx', rx⟩ := rv.get vx
    have ex : x' = x := Option.some.inj (hx'.symm.trans (by simpa using hx))
    subst ex
    have new : ObjOk X.prog X.w (upd H T (.tup [.int (i : Nat), xs[i]])) h' T (.tup [.int (i : Nat), xs[i]]) :=
      ⟨by show 2 ≤ sizeLine; decide, [.int i tt, x'], .cons ⟨_, rfl⟩ (.cons rx .nil), ⟨o, ho, hoc, m, by rw [hod]; simp⟩⟩
    have I1 : Inv X pins σ (upd H T (.tup [.int (i : Nat), xs[i]])) { s with heap := h', toks := tk } :=
      I.turnedNew (t' := tk) (ch := [e, it]) (fun c ob hb q => hk c ob hb q) hf hT new
    refine ⟨.ref T, _, I1, rfl, ⟨T, _, rfl, I.hok.fresh hT, rfl, fun l hl => by rw [sq_inj I hl qx]; exact vx⟩, ⟨j0, j1⟩, fun c hcm => ?_⟩
    rw [upd_ne (Nat.ne_of_lt (Nat.lt_of_lt_of_le (inH c hcm) hT))]
    exact (hf c hcm).1
  done := by
    intro X eP ew eK hc i pins s σ H E I hf st hg
    subst eP ew eK
    obtain ⟨k0, k1⟩ := st
    obtain ⟨xs, qx, hi⟩ := hg
    obtain ⟨its, rv, p, _⟩ := stands I qx
    have l1 := rv.length
    have hh : X.A.in1.handled = none := I.ok.hd hc
    have G := GoesN.enumFrom (A := X.A) (elts := elts) (x1 := kk) (pos := tpos) 0 (draws (P := X.prog) (w := X.w) (A := X.A.in1) t hh it a n1 its.toArray) e hei (by simp [hei, hea]) (by simp)
    have ee : i = its.toArray.size := by simp only [List.size_toArray]; omega
    subst ee
    exact G.stops s _ E ⟨k0, k1, p⟩ fun h' tk hk htk => I.turnedL (t' := tk) (ch := [e, it]) (fun c ob hb q => hk c ob hb q) hf
  self := fun _ _ _ _ _ st k => by
    obtain ⟨⟨old, k0⟩, _⟩ := st
    exact wpAny_pyIter_enum k0 k
def iEnumS (K : PySem.W.Frag) (ta : TA) : TI := fun σ H R => ta σ H fun vs H1 => ∃ (t : Bool) (a : Addr) (xs : List V), vs = [.ref a] ∧ Sq t K H1 a xs ∧ R (ItE K t a) H1
theorem pi_enumS {X : Cx} {e : Expr} {ta : TA} {p pos tpos : Pos} {elts : List Expr} {kk : Nat} (hg : Gl X "enumerate") (hm : X.mg "enumerate" = none) (ha : PA X [e] ta) (hs : starEach [e] X.env = [(false, eval e X.env)] := by rfl) :
    PI X (.Tuple elts kk tpos) (.Call (.Name "enumerate" p) [e] [] pos) (iEnumS X.K ta) := by
  refine ⟨fun pins s σ H R I h => ?_⟩
  refine Call_ (ld_blt I hg hm boot_enumerate (PyProof.Rows.callWith_type1 (thn (ha.run pos pins s σ H _ I h) fun us s1 ⟨vs, H1, I1, r1, q1⟩ => ?_) hs rfl))
  obtain ⟨t, a, xs, ex, hq, q⟩ := q1
  subst ex
  cases r1 with
  | cons r rr =>
    cases rr
    cases r
    obtain ⟨its, rv, p1, la⟩ := stands I1 hq
    refine enum_begins1 (begins t a its.toArray) p1 fun h' k0 k1 hsz hk => wpAny_pyIter_enum k0 ?_
    have I2 : Inv X pins σ H1 { s1 with heap := h' } := I1.kept (t' := s1.toks) hk
    refine ⟨s1.heap.objs.size + 1, [s1.heap.objs.size + 1, s1.heap.objs.size], _, _, H1, rfl, I2, turnE (Nat.ne_of_lt la) (Nat.succ_ne_self _) (Nat.ne_of_gt (Nat.lt_succ_of_lt la)), ⟨⟨.none, k0⟩, at_new k1⟩, fun b hb => ?_, q⟩
    have e' : b = s1.heap.objs.size + 1 ∨ b = s1.heap.objs.size := by simpa using hb
    have hle : s1.heap.objs.size ≤ b := by
      rcases e' with z | z
      · rw [z]; exact Nat.le_add_right _ _
      · rw [z]; exact Nat.le_refl _
    exact I1.fpOk hle (I1.hok.fresh hle)
theorem walkE {K : PySem.W.Frag} {t : Bool} {a : Addr} {xs : List V} : Walk (ItE K t a) xs.length (fun H => Sq t K H a xs) (YPair (fun i => some (.int (i : Nat))) (fun i => xs[i]?)) := by
  refine ⟨fun i _ hi q => ⟨xs, q, hi⟩, fun _ q => ⟨xs, q, rfl⟩, fun i H v H' _ q y => ?_⟩
  obtain ⟨T, x, h1, h2, h3, h4⟩ := y
  exact ⟨T, .int (i : Nat), x, h1, h2, h3, rfl, h4 xs q⟩
end ZM
/-! set(xs), xs a list of ints. -/
namespace SetLi
open PySem PySem.Spec PyProof.Rows L2
abbrev oSet (w : World) : Obj := { cls := .type "set", dict := none
                                   data := .set #[] 0 (.fresh 0 0 (!w.params.followText "set-order")) }
abbrev oIt (l : Addr) : Obj := { cls := .type "list_iterator"
                                 data := .fields #[.ref l, .int 0 0] }
section
variable {P : Program} {w : World} {A : Around} {E : Value → Shared → Prop} {s : Shared}
/-- what is told of the filled set -/
def Full (w : World) (s : Shared) (ns : List Int) (h' : Heap) (c : Nat) : Prop :=
  SetR w h' s.heap.objs.size (fun j => decide (j ∈ ns)) c ∧ c ≤ ns.length ∧
  ∀ b o, s.heap.get? b = some o → h'.get? b = some o
theorem set_of_list {l : Addr} {xs : Array Value} (ns : List Int) {Q : Value → Shared → Prop}
    (quiet : A.handled = none) (hl : s.heap.IsList l xs) (hi : IntsAre xs.toList ns) (few : ns.length + 1 < scanBound)
    (k : ∀ (h' : Heap) (tk c : Nat), Full w s ns h' c → Q (.ref s.heap.objs.size) { s with heap := h', toks := tk }) :
    wpAny (model P w) A (call (.type "set") [.ref l]) Q E s := by
  have size : xs.size = ns.length := by
    rw [← Array.length_toList]
    exact IntsAre.length hi
  obtain ⟨c, tl, mro⟩ := F.called_set.mro
  have made := F.called_set.made
  have sub := F.called_set.sub
  have notTy := F.called_set.notType
  have canNew := F.called_set.canCreate
  have tc := F.typeCall_set_1 (.ref l)
  refine wpAny_call (codeAny_of_tree ?_)
  show wpAny _ _ (callAny (.type "set") _) _ _ _
  refine wpAny_pure ⟨Code.quiet_builtin _ (by decide +kernel), ?_⟩
  refine codeAny_builtin F.entry_type_call ?_
  rw [Around.under_plain (weight_type_call_type "set" [.ref l] []) rfl]
  repeat any_goals first | assumption | wp_step
  refine codeAny_mono (code_set_led1 (.ref l) (E := E) (Q₁ := fun obj s₁ => obj = .ref s.heap.objs.size ∧
    s₁ = { s with heap := s.heap.push (oSet w) }) ⟨rfl, rfl⟩) fun r s1 got => ?_
  match r, got with
  | .error e, got => exact got
  | .ok .next, got => exact got.elim
  | .ok .brk, got => exact got.elim
  | .ok .cont, got => exact got.elim
  | .ok (.ret obj), got =>
    obtain ⟨rfl, rfl⟩ := got
    have get0 : (s.heap.push (oSet w)).get? s.heap.objs.size = some (oSet w) := Heap.get?_push_size _ rfl
    have ty0 : Shared.TypeIs { s with heap := s.heap.push (oSet w) } (.ref s.heap.objs.size) "set" := ⟨_, get0, rfl⟩
    have look := F.called_set.init.lookup
    have bind := F.called_set.init.bind (.ref s.heap.objs.size)
    repeat any_goals first | assumption | wp_step
    refine codeAny_mono (codeAny_call_builtin
      (R := wants (fun r s₂ => r = .none ∧ ∃ h' tk c, s₂ = { s with heap := h', toks := tk } ∧ Full w s ns h' c) E)
      F.called_set.init.plain F.entry_set_init (check_set_init_1 ty0 ?_)) fun r2 s2 got2 => ?_
    · obtain ⟨ol, at0, cl, nl, dl⟩ := hl
      obtain ⟨ocls, odict, odata, oslots⟩ := ol
      simp only at cl dl
      subst cl
      subst dl
      have at1 := Heap.get?_push_of_some (oSet w) at0
      have sA := F.sub_list_set
      have sB := F.sub_list_frozenset
      have isl : (s.heap.push (oSet w)).IsList l xs := ⟨_, at1, rfl, nl, rfl⟩
      unfold Builtin.«set.__init__» noKeywords Builtin.Frozenset.updateFrom
      generalize hIter : pyIter = it
      wp_walk
      subst hIter
      refine wpAny_pyIter_list isl ?_
      refine wpAny_bind (wpAny_runValue ?_)
      have below : l < s.heap.objs.size := Heap.lt_size at0
      have quiet3 : A.in1.in1.in1.handled = none := by simp [quiet]
      have grown : (s.heap.push (oSet w)).objs.size = s.heap.objs.size + 1 := Heap.size_push ..
      have apart : l ≠ (s.heap.push (oSet w)).objs.size := by
        rw [grown]
        exact Nat.ne_of_lt (Nat.lt_succ_of_lt below)
      have fresh : s.heap.objs.size ∉ [(s.heap.push (oSet w)).objs.size, l] := by
        rw [grown]
        intro hm
        rcases List.mem_cons.mp hm with e | hm
        · exact absurd e (Nat.ne_of_lt (Nat.lt_succ_self _))
        · exact absurd (List.mem_singleton.mp hm) (Nat.ne_of_gt below)
      have vals : ∀ (i : Nat) (v : Value), xs[i]? = some v → ∃ z t, ns[i]? = some z ∧ v = .int z t := by
        intro i v hv
        have hlt := (Array.getElem?_eq_some_iff.mp hv).1
        have hin : i < ns.length := by omega
        obtain ⟨t, e⟩ := PyProof.Rows.IntsAre.int_at hi i v (by rw [Array.getElem?_toList]; exact hv)
        refine ⟨ns[i], t, List.getElem?_eq_getElem hin, ?_⟩
        rw [e, List.getD_eq_getElem?_getD, List.getElem?_eq_getElem hin]
        rfl
      refine set_update_ints ((Walks.list quiet3 _ l apart xs).toS) s.heap.objs.size fresh ns size few vals
        (xs.size - 0) 0 _ (by omega) (Nat.zero_le _) ⟨⟨_, Heap.get?_push_size _ rfl, rfl, rfl⟩, isl.push _⟩ ?first ?last
      case first =>
        have get1 : ((s.heap.push (oSet w)).push (oIt l)).get? s.heap.objs.size = some (oSet w) :=
          Heap.get?_push_of_some _ get0
        exact ⟨0, Nat.le_refl 0, setR_new_at get1⟩
      case last =>
        intro s' c' mv le full
        obtain ⟨h', g2, d', tk', os'⟩ := s'
        obtain rfl : g2 = s.gens := mv.gens
        obtain rfl : d' = s.drawn := mv.drawn
        obtain rfl : os' = s.os := mv.os
        rw [size] at le
        show wpAny _ _ _ _ _ _
        refine wpAny_pure ?_
        show wpAny _ _ (ret Value.none) _ _ _
        refine wpAny_pure ⟨rfl, h', tk', c', rfl, full, le, fun b o e => ?_⟩
        have b0 : b < s.heap.objs.size := Heap.lt_size e
        refine mv.heap b o (fun hm => ?_) (Heap.get?_push_of_some _ (Heap.get?_push_of_some _ e))
        rcases List.mem_cons.mp hm with z | hm
        · exact absurd z (Nat.ne_of_lt b0)
        · have z := List.mem_singleton.mp hm
          rw [grown] at z
          exact absurd z (Nat.ne_of_lt (Nat.lt_succ_of_lt b0))
    · match r2, got2 with
      | .error e, got2 => exact got2
      | .ok .next, got2 => exact got2.elim
      | .ok .brk, got2 => exact got2.elim
      | .ok .cont, got2 => exact got2.elim
      | .ok (.ret r), got2 =>
        obtain ⟨rfl, h', tk, c', rfl, full⟩ := got2
        repeat any_goals first | assumption | wp_step
        exact k _ _ _ full
end
section
variable {X : Cx}
def rSetLi (K : PySem.W.Frag) (w : World) : List V → Hp → VK → Prop := fun xs H Q => ∃ (l : Addr) (ns : List Int),
  xs = [.ref l] ∧ SqL K H l (ns.map V.int) ∧ ns.length ≤ 1000 ∧
  ∀ (p : Addr) (c : Nat), H p = none → c ≤ ns.length → Q (.ref p) (upd H p (SetO w p (fun k => decide (k ∈ ns)) c))
theorem cr_setLi (hc : X.calm = true) : CallR X (.type "set") (rSetLi X.K X.w) := by
  intro pins s σ H xs us Q I r h
  obtain ⟨l, ns, rfl, hq, hl, q⟩ := h
  cases r with
  | cons r rr =>
    cases rr
    cases r
    obtain ⟨its, rv, pt, hz⟩ := I.list hq
    have hi : IntsAre its.toArray.toList ns := ints_of_vals rv
    obtain ⟨o, n, ho, hcl, _, hd⟩ := pt
    refine set_of_list (xs := its.toArray) ns (I.ok.hd hc) ⟨o, ho, hcl, n, hd⟩ hi (by unfold scanBound; omega) fun h' tk c full => ?_
    obtain ⟨R1, hcn, kept⟩ := full
    exact ⟨.ref _, upd H s.heap.objs.size (SetO X.w s.heap.objs.size (fun k => decide (k ∈ ns)) c),
      I.laid (t' := tk) kept (Nat.le_refl _) (setO_new R1), rfl, q _ c (I.hok.fresh (Nat.le_refl _)) hcn⟩
end
end SetLi
/-! len of a set of ints. -/
namespace SetLi
open PySem PySem.Spec PyProof.Rows L2
section
variable {X : Cx}
def rSetLen (w : World) : List V → Hp → VK → Prop := fun xs H Q => ∃ (a : Addr) (S : Int → Bool) (n : Nat) (ns : List Int), xs = [.ref a] ∧ H a = some (SetO w a S n) ∧ ns.Nodup ∧ (∀ k, k ∈ ns ↔ S k = true) ∧ Q (.int ns.length) H
theorem cr_setLen : CallR X (.builtin "len") (rSetLen X.w) := by
  intro pins s σ H xs us Q I r h
  obtain ⟨a, S, n, ns, rfl, ha, nd, mem, q⟩ := h
  cases r with
  | cons r rr =>
    cases rr
    cases r
    obtain ⟨o, es, ep, t, ho, hx, hd, g, nd2, hm, hb, hf, hn, _⟩ := setO_get I ha
    have e : (es.toList.map keyOf).length = ns.length := by
      refine List.Perm.length_eq ((List.perm_ext_iff_of_nodup nd2 nd).mpr fun k => ?_)
      rw [mem k, hm k]
    rw [List.length_map, Array.length_toList] at e
    refine call_len_set ho hx hd hf (by unfold scanBound at hb; omega) ⟨.int es.size, H, I.tok _, ⟨_, rfl⟩, ?_⟩
    rw [e]
    exact q
end
end SetLi
/-! How places hang together by ties: the marks of the pieces, the wood. -/
namespace Hang
def step (P : List Nat) (x y : Nat) : List Nat := P.map fun m => if m = max x y then min x y else m
def lawStep (P : List Nat) (x y : Nat) : List Nat := P.map fun m => if m = x ∨ m = y then min x y else m
theorem law_eq {P : List Nat} {x y : Nat} (h : x ≠ y) : lawStep P x y = step P x y := by
  unfold lawStep step
  apply List.map_congr_left
  intro m _
  by_cases c : m = max x y
  · rw [if_pos c, if_pos]
    omega
  · rw [if_neg c]
    by_cases d : m = x ∨ m = y
    · rw [if_pos d]
      omega
    · rw [if_neg d]
def Ok (n : Nat) (P : List Nat) : Prop := P.length = n ∧ ∀ i, i < n → P.getD i 0 ≤ i ∧ P.getD (P.getD i 0) 0 = P.getD i 0
theorem ok_lt {n : Nat} {P : List Nat} (h : Ok n P) {i : Nat} (hi : i < n) : P.getD i 0 < n := Nat.lt_of_le_of_lt (h.2 i hi).1 hi
theorem len_step {P : List Nat} {x y : Nat} : (step P x y).length = P.length := List.length_map ..
theorem at_step {P : List Nat} {x y i : Nat} (h : i < P.length) : (step P x y).getD i 0 = if P.getD i 0 = max x y then min x y else P.getD i 0 := by
  unfold step
  rw [List.getD_eq_getElem?_getD, List.getElem?_map, List.getD_eq_getElem?_getD, List.getElem?_eq_getElem h]
  rfl
theorem range_ok {n : Nat} : Ok n (List.range n) := by
  refine ⟨List.length_range, fun i hi => ?_⟩
  have e : ∀ j, j < n → (List.range n).getD j 0 = j := fun j hj => by
    rw [List.getD_eq_getElem?_getD, List.getElem?_range hj]
    rfl
  rw [e i hi]
  exact ⟨Nat.le_refl _, e i hi⟩
/-- the marks of two places are roots -/
theorem step_ok {n : Nat} {P : List Nat} {a b : Nat} (h : Ok n P) (ha : a < n) (hb : b < n) (ne : P.getD a 0 ≠ P.getD b 0) : Ok n (step P (P.getD a 0) (P.getD b 0)) := by
  refine ⟨by rw [len_step]; exact h.1, fun i hi => ?_⟩
  have l := h.1
  have rx := h.2 a ha
  have ry := h.2 b hb
  have ri := h.2 i hi
  have lx := ok_lt h ha
  have ly := ok_lt h hb
  have li := ok_lt h hi
  rw [at_step (by omega)]
  by_cases c : P.getD i 0 = max (P.getD a 0) (P.getD b 0)
  · rw [if_pos c]
    refine ⟨by omega, ?_⟩
    rw [at_step (by omega)]
    have e : P.getD (min (P.getD a 0) (P.getD b 0)) 0 = min (P.getD a 0) (P.getD b 0) := by
      rcases Nat.le_total (P.getD a 0) (P.getD b 0) with d | d
      · rw [Nat.min_eq_left d]; exact rx.2
      · rw [Nat.min_eq_right d]; exact ry.2
    rw [e, if_neg (by omega)]
  · rw [if_neg c]
    refine ⟨ri.1, ?_⟩
    rw [at_step (by omega), ri.2, if_neg c]
def roots (P : List Nat) : List Nat := (List.range P.length).filter fun i => P.getD i 0 == i
theorem filter_one {n h : Nat} {p : Nat → Bool} (hn : h < n) (hp : p h = true) : ((List.range n).filter fun i => p i && (i != h)).length + 1 = ((List.range n).filter p).length := by
  induction n with
  | zero => omega
  | succ n ih =>
    rw [List.range_succ, List.filter_append, List.filter_append, List.length_append, List.length_append]
    by_cases c : h = n
    · subst c
      have e : (List.range h).filter (fun i => p i && (i != h)) = (List.range h).filter p := by
        apply List.filter_congr
        intro i hi
        have : i ≠ h := by have := List.mem_range.mp hi; omega
        simp [this]
      rw [e]
      simp [hp]
    · have := ih (by omega)
      have e : ([n].filter fun i => p i && (i != h)) = [n].filter p := by
        have : (n != h) = true := by simpa using fun e => c e.symm
        simp only [List.filter_cons, List.filter_nil, this, Bool.and_true]
      rw [e]
      omega
theorem roots_step {n : Nat} {P : List Nat} {a b : Nat} (h : Ok n P) (ha : a < n) (hb : b < n) (ne : P.getD a 0 ≠ P.getD b 0) : (roots (step P (P.getD a 0) (P.getD b 0))).length + 1 = (roots P).length := by
  have l := h.1
  have rx := h.2 a ha
  have ry := h.2 b hb
  have lx := ok_lt h ha
  have ly := ok_lt h hb
  unfold roots
  rw [len_step]
  have eH : P.getD (max (P.getD a 0) (P.getD b 0)) 0 = max (P.getD a 0) (P.getD b 0) := by
    rcases Nat.le_total (P.getD a 0) (P.getD b 0) with d | d
    · rw [Nat.max_eq_right d]; exact ry.2
    · rw [Nat.max_eq_left d]; exact rx.2
  rw [← filter_one (n := P.length) (h := max (P.getD a 0) (P.getD b 0)) (p := fun i => P.getD i 0 == i) (by omega) (by simpa using eH)]
  congr 2
  apply List.filter_congr
  intro i hi
  have hi := List.mem_range.mp hi
  rw [at_step hi]
  have ri := h.2 i (by omega)
  by_cases c : P.getD i 0 = max (P.getD a 0) (P.getD b 0)
  · rw [if_pos c]
    have eL : P.getD (min (P.getD a 0) (P.getD b 0)) 0 = min (P.getD a 0) (P.getD b 0) := by
      rcases Nat.le_total (P.getD a 0) (P.getD b 0) with d | d
      · rw [Nat.min_eq_left d]; exact rx.2
      · rw [Nat.min_eq_right d]; exact ry.2
    have h1 : ((min (P.getD a 0) (P.getD b 0)) == i) = false := by
      rw [beq_eq_false_iff_ne]
      intro e
      rw [← e, eL] at c
      omega
    rw [h1]
    by_cases d : i = max (P.getD a 0) (P.getD b 0)
    · have : (i != max (P.getD a 0) (P.getD b 0)) = false := by simpa using d
      rw [this, Bool.and_false]
    · have : (P.getD i 0 == i) = false := by
        rw [beq_eq_false_iff_ne]
        intro e
        omega
      rw [this, Bool.false_and]
  · rw [if_neg c]
    by_cases d : i = max (P.getD a 0) (P.getD b 0)
    · exfalso
      rw [d] at c
      exact c eH
    · have : (i != max (P.getD a 0) (P.getD b 0)) = true := by simpa using d
      rw [this, Bool.and_true]
/-- marks and wood after ties, each told by its two places -/
def runs : List (Nat × Nat) → Nat → List Nat → List Nat → List Nat × List Nat
  | [], _, P, W => (P, W)
  | (a, b) :: es, k, P, W => if P.getD a 0 = P.getD b 0 then runs es (k + 1) P W else runs es (k + 1) (step P (P.getD a 0) (P.getD b 0)) (W ++ [k])
def hung (n : Nat) (es : List (Nat × Nat)) : List Nat × List Nat := runs es 0 (List.range n) []
theorem runs_snoc : ∀ {es : List (Nat × Nat)} {k : Nat} {P W : List Nat} {a b : Nat}, runs (es ++ [(a, b)]) k P W = (let R := runs es k P W; if R.1.getD a 0 = R.1.getD b 0 then R else (step R.1 (R.1.getD a 0) (R.1.getD b 0), R.2 ++ [k + es.length]))
  | [], k, P, W, a, b => by
    simp only [List.nil_append, runs]
    rfl
  | (c, d) :: es, k, P, W, a, b => by
    show (if P.getD c 0 = P.getD d 0 then runs (es ++ [(a, b)]) (k + 1) P W else runs (es ++ [(a, b)]) (k + 1) (step P (P.getD c 0) (P.getD d 0)) (W ++ [k])) = _
    have e : k + ((c, d) :: es).length = k + 1 + es.length := by rw [List.length_cons]; omega
    rw [e]
    by_cases q : P.getD c 0 = P.getD d 0
    · rw [if_pos q, runs_snoc]
      simp only [runs, if_pos q]
    · rw [if_neg q, runs_snoc]
      simp only [runs, if_neg q]
theorem runs_ok {n : Nat} : ∀ {es : List (Nat × Nat)} {k : Nat} {P W : List Nat}, (∀ e ∈ es, e.1 < n ∧ e.2 < n) → Ok n P → W.length + (roots P).length = n → Ok n (runs es k P W).1 ∧ (runs es k P W).2.length + (roots (runs es k P W).1).length = n
  | [], k, P, W, _, h, hw => ⟨h, hw⟩
  | (a, b) :: es, k, P, W, hes, h, hw => by
    obtain ⟨ha, hb⟩ : a < n ∧ b < n := hes (a, b) (List.mem_cons_self ..)
    have hes' : ∀ e ∈ es, e.1 < n ∧ e.2 < n := fun e m => hes e (List.mem_cons_of_mem _ m)
    show Ok n (if P.getD a 0 = P.getD b 0 then runs es (k + 1) P W else runs es (k + 1) (step P (P.getD a 0) (P.getD b 0)) (W ++ [k])).1 ∧ _ = _
    have eR : runs ((a, b) :: es) k P W = if P.getD a 0 = P.getD b 0 then runs es (k + 1) P W else runs es (k + 1) (step P (P.getD a 0) (P.getD b 0)) (W ++ [k]) := rfl
    rw [eR]
    by_cases q : P.getD a 0 = P.getD b 0
    · rw [if_pos q]
      exact runs_ok hes' h hw
    · rw [if_neg q]
      refine runs_ok hes' (step_ok h ha hb q) ?_
      have := roots_step h ha hb q
      show (W ++ [k]).length + (roots (step P (P.getD a 0) (P.getD b 0))).length = n
      rw [List.length_append]
      simp only [List.length_cons, List.length_nil]
      omega
theorem roots_range {n : Nat} : roots (List.range n) = List.range n := by
  unfold roots
  rw [List.length_range]
  apply List.filter_eq_self.mpr
  intro i hi
  have hi := List.mem_range.mp hi
  rw [List.getD_eq_getElem?_getD, List.getElem?_range hi]
  simp
theorem hung_ok {n : Nat} {es : List (Nat × Nat)} (h : ∀ e ∈ es, e.1 < n ∧ e.2 < n) : Ok n (hung n es).1 ∧ (hung n es).2.length + (roots (hung n es).1).length = n :=
  runs_ok h range_ok (by rw [roots_range, List.length_range]; simp)
theorem mem_roots {n : Nat} {P : List Nat} (h : Ok n P) {k : Nat} : k ∈ roots P ↔ k ∈ P := by
  unfold roots
  rw [List.mem_filter, List.mem_range]
  constructor
  · rintro ⟨hk, e⟩
    have e : P.getD k 0 = k := by simpa using e
    rw [List.getD_eq_getElem?_getD, List.getElem?_eq_getElem hk] at e
    have e : P[k] = k := e
    rw [← e]
    exact List.getElem_mem ..
  · intro hm
    obtain ⟨i, hi⟩ := List.getElem?_of_mem hm
    have hl := (List.getElem?_eq_some_iff.mp hi).1
    have l := h.1
    have e : P.getD i 0 = k := by rw [List.getD_eq_getElem?_getD, hi]; rfl
    have r := h.2 i (by omega)
    rw [e] at r
    exact ⟨by omega, by simpa using r.2⟩
theorem roots_lt {P : List Nat} : (roots P).Pairwise (· < ·) := List.Pairwise.filter _ List.pairwise_lt_range
theorem strict_uniq : ∀ {a b : List Int}, a.Pairwise (· < ·) → b.Pairwise (· < ·) → (∀ k, k ∈ a ↔ k ∈ b) → a = b
  | [], [], _, _, _ => rfl
  | [], y :: b, _, _, h => by cases (h y).mpr (List.mem_cons_self ..)
  | x :: a, [], _, _, h => by cases (h x).mp (List.mem_cons_self ..)
  | x :: a, y :: b, p, q, h => by
    obtain ⟨p1, p2⟩ := List.pairwise_cons.mp p
    obtain ⟨q1, q2⟩ := List.pairwise_cons.mp q
    have e : x = y := by
      rcases List.mem_cons.mp ((h x).mp (List.mem_cons_self ..)) with e | m
      · exact e
      · rcases List.mem_cons.mp ((h y).mpr (List.mem_cons_self ..)) with e | m'
        · exact e.symm
        · have := q1 x m
          have := p1 y m'
          omega
    subst e
    rw [strict_uniq p2 q2 fun k => ⟨fun m => ?_, fun m => ?_⟩]
    · rcases List.mem_cons.mp ((h k).mp (List.mem_cons_of_mem _ m)) with e | m'
      · subst e
        have := p1 k m
        omega
      · exact m'
    · rcases List.mem_cons.mp ((h k).mpr (List.mem_cons_of_mem _ m)) with e | m'
      · subst e
        have := q1 k m
        omega
      · exact m'
/-- what is sorted of the marks' set is the roots -/
theorem sorted_roots {n : Nat} {P : List Nat} (h : Ok n P) {ns : List Int} (hs : ns.Pairwise (· < ·)) (hm : ∀ k : Int, k ∈ ns ↔ k ∈ P.map fun m : Nat => (m : Int)) : ns = (roots P).map fun m : Nat => (m : Int) := by
  refine strict_uniq hs ?_ fun k => ?_
  · rw [List.pairwise_map]
    exact List.Pairwise.imp (fun h => by omega) roots_lt
  · rw [hm, List.mem_map, List.mem_map]
    constructor
    · rintro ⟨m, hm, e⟩
      exact ⟨m, (mem_roots h).mpr hm, e⟩
    · rintro ⟨m, hm, e⟩
      exact ⟨m, (mem_roots h).mp hm, e⟩
def piece (P : List Nat) (r : Nat) : List Nat := (List.range P.length).filter fun i => P.getD i 0 == r
def pieces (P : List Nat) : List (List Nat) := (roots P).map (piece P)
theorem piece_len {P : List Nat} {r : Nat} : (piece P r).length ≤ P.length := by
  have := List.length_filter_le (fun i => P.getD i 0 == r) (List.range P.length)
  rw [List.length_range] at this
  exact this
theorem roots_len {P : List Nat} : (roots P).length ≤ P.length := by
  have := List.length_filter_le (fun i => P.getD i 0 == i) (List.range P.length)
  rw [List.length_range] at this
  exact this
end Hang
/-! Ways along the wood: what each round finds. -/
namespace Ways
abbrev St := List (Nat × Bool)
abbrev Ds := List (Nat × St)
abbrev Edge := Nat × Nat × Nat
def turn (S : Ds) (e : Edge) : Ds := match S.lookup e.2.1, S.lookup e.2.2 with
  | some q, none => S ++ [(e.2.2, q ++ [(e.1, true)])]
  | none, some q => S ++ [(e.2.1, q ++ [(e.1, false)])]
  | _, _ => S
def round (E : List Edge) (S : Ds) : Ds := E.foldl turn S
def rounds (E : List Edge) : Nat → Ds → Ds
  | 0, S => S
  | k + 1, S => round E (rounds E k S)
def walked (en : Nat → Nat × Nat) : Nat → St → Option Nat
  | p, [] => some p
  | p, (t, f) :: r => if (if f then (en t).1 else (en t).2) = p then walked en (if f then (en t).2 else (en t).1) r else none
theorem walked_app {en : Nat → Nat × Nat} : ∀ {st : St} {p q : Nat} {r : St}, walked en p st = some q → walked en p (st ++ r) = walked en q r
  | [], p, q, r, h => by
    cases h
    rfl
  | (t, f) :: st, p, q, r, h => by
    show (if (if f then (en t).1 else (en t).2) = p then walked en (if f then (en t).2 else (en t).1) (st ++ r) else none) = _
    unfold walked at h
    by_cases c : (if f then (en t).1 else (en t).2) = p
    · rw [if_pos c] at h ⊢
      exact walked_app h
    · rw [if_neg c] at h
      cases h
theorem lk_app {S : Ds} {k b : Nat} {x : St} : (S ++ [(b, x)]).lookup k = match S.lookup k with | some y => some y | none => if k = b then some x else none := by
  induction S with
  | nil =>
    show (match k == b with | true => some x | false => none) = _
    by_cases c : k = b
    · subst c
      simp
    · have : (k == b) = false := by simpa using c
      rw [this]
      simp [c]
  | cons h t ih =>
    obtain ⟨a, y⟩ := h
    show (match k == a with | true => some y | false => (t ++ [(b, x)]).lookup k) = match (match k == a with | true => some y | false => t.lookup k) with | some y => some y | none => _
    cases (k == a) with
    | true => rfl
    | false => exact ih
def Has (S : Ds) (p : Nat) : Prop := ∃ st, S.lookup p = some st
theorem turn_cases (S : Ds) (e : Edge) : (turn S e = S ∧ (Has S e.2.1 ↔ Has S e.2.2)) ∨ (∃ q, S.lookup e.2.1 = some q ∧ S.lookup e.2.2 = none ∧ turn S e = S ++ [(e.2.2, q ++ [(e.1, true)])]) ∨ (∃ q, S.lookup e.2.1 = none ∧ S.lookup e.2.2 = some q ∧ turn S e = S ++ [(e.2.1, q ++ [(e.1, false)])]) := by
  unfold turn Has
  cases h1 : S.lookup e.2.1 with
  | none =>
    cases h2 : S.lookup e.2.2 with
    | none => exact .inl ⟨rfl, by simp⟩
    | some q => exact .inr (.inr ⟨q, rfl, rfl, rfl⟩)
  | some q =>
    cases h2 : S.lookup e.2.2 with
    | none => exact .inr (.inl ⟨q, rfl, rfl, rfl⟩)
    | some r => exact .inl ⟨rfl, by simp⟩
theorem turn_keep {S : Ds} {e : Edge} {p : Nat} {st : St} (h : S.lookup p = some st) : (turn S e).lookup p = some st := by
  rcases turn_cases S e with ⟨q, _⟩ | ⟨q, _, _, r⟩ | ⟨q, _, _, r⟩
  · rw [q]; exact h
  · rw [r, lk_app, h]
  · rw [r, lk_app, h]
theorem turn_has {S : Ds} {e : Edge} {p : Nat} (h : Has S p) : Has (turn S e) p := by
  obtain ⟨st, h⟩ := h
  exact ⟨st, turn_keep h⟩
theorem fold_has {E : List Edge} : ∀ {S : Ds} {p : Nat}, Has S p → Has (E.foldl turn S) p := by
  induction E with
  | nil => intro S p h; exact h
  | cons e E ih => intro S p h; exact ih (turn_has h)
/-- both ends are found -/
def Both (S : Ds) (e : Edge) : Prop := Has S e.2.1 ∧ Has S e.2.2
/-- what is kept of the found ways from p -/
structure Good (en : Nat → Nat × Nat) (E : List Edge) (p : Nat) (S : Ds) : Prop where
  start : S.lookup p = some []
  walk : ∀ q st, S.lookup q = some st → walked en p st = some q
  nd : ∀ q st, S.lookup q = some st → (st.map (·.1)).Nodup
  ties : ∀ q st, S.lookup q = some st → ∀ t ∈ st.map (·.1), ∃ e ∈ E, e.1 = t ∧ Both S e
theorem good_turn {en : Nat → Nat × Nat} {E : List Edge} {p : Nat} {S : Ds} {e : Edge} (g : Good en E p S) (he : e ∈ E) (hE : ∀ e ∈ E, en e.1 = (e.2.1, e.2.2)) : Good en E p (Ways.turn S e) := by
  have key : ∀ (a b : Nat) (f : Bool) (q : St), S.lookup a = some q → S.lookup b = none → walked en a [(e.1, f)] = some b → (∀ e' ∈ E, e'.1 = e.1 → ¬ Both S e') → Has (turn S e) e.2.1 → Has (turn S e) e.2.2 → turn S e = S ++ [(b, q ++ [(e.1, f)])] → Good en E p (turn S e) := by
    intro a b f q ha hb hw hn b1 b2 ht
    have cs : ∀ r st, (Ways.turn S e).lookup r = some st → S.lookup r = some st ∨ (r = b ∧ st = q ++ [(e.1, f)]) := by
      intro r st h
      rw [ht, lk_app] at h
      cases hr : S.lookup r with
      | some y => rw [hr] at h; exact .inl h
      | none =>
        rw [hr] at h
        by_cases c : r = b
        · exact .inr ⟨c, by simpa [c] using h.symm⟩
        · simp [c] at h
    refine ⟨turn_keep g.start, ?_, ?_, ?_⟩
    · intro r st h
      rcases cs r st h with h | ⟨rfl, rfl⟩
      · exact g.walk r st h
      · rw [walked_app (g.walk a q ha)]
        exact hw
    · intro r st h
      rcases cs r st h with h | ⟨rfl, rfl⟩
      · exact g.nd r st h
      · rw [List.map_append, List.nodup_append]
        refine ⟨g.nd a q ha, by simp, ?_⟩
        intro x hx y hy
        have hy : y = e.1 := by simpa using hy
        subst hy
        intro z
        subst z
        obtain ⟨e', he', e1, bo⟩ := g.ties a q ha _ hx
        exact hn e' he' e1 bo
    · intro r st h t hm
      rcases cs r st h with h | ⟨rfl, rfl⟩
      · obtain ⟨e', he', e1, bo⟩ := g.ties r st h t hm
        exact ⟨e', he', e1, turn_has bo.1, turn_has bo.2⟩
      · rw [List.map_append] at hm
        rcases List.mem_append.mp hm with hm | hm
        · obtain ⟨e', he', e1, bo⟩ := g.ties a q ha t hm
          exact ⟨e', he', e1, turn_has bo.1, turn_has bo.2⟩
        · have : t = e.1 := by simpa using hm
          exact ⟨e, he, this.symm, b1, b2⟩
  have same : ∀ e' ∈ E, e'.1 = e.1 → e' = e := fun e' he' h => by
    have h1 := hE e' he'
    have h2 := hE e he
    rw [h, h2] at h1
    obtain ⟨x, y, z⟩ := e'
    obtain ⟨x', y', z'⟩ := e
    simp only [Prod.mk.injEq] at h1 h ⊢
    exact ⟨h, h1.1.symm, h1.2.symm⟩
  rcases turn_cases S e with ⟨q, _⟩ | ⟨q, h1, h2, ht⟩ | ⟨q, h1, h2, ht⟩
  · rw [q]; exact g
  · refine key e.2.1 e.2.2 true q h1 h2 ?_ ?_ ?_ ?_ ht
    · simp [walked, hE e he]
    · intro e' he' h1' bo
      rw [same e' he' h1'] at bo
      obtain ⟨st, hst⟩ := bo.2
      rw [h2] at hst
      cases hst
    · exact turn_has ⟨q, h1⟩
    · exact ⟨q ++ [(e.1, true)], by rw [ht, lk_app, h2]; simp⟩
  · refine key e.2.2 e.2.1 false q h2 h1 ?_ ?_ ?_ ?_ ht
    · simp [walked, hE e he]
    · intro e' he' h1' bo
      rw [same e' he' h1'] at bo
      obtain ⟨st, hst⟩ := bo.1
      rw [h1] at hst
      cases hst
    · exact ⟨q ++ [(e.1, false)], by rw [ht, lk_app, h1]; simp⟩
    · exact turn_has ⟨q, h2⟩
theorem Good.fold {en : Nat → Nat × Nat} {E : List Edge} {p : Nat} (hE : ∀ e ∈ E, en e.1 = (e.2.1, e.2.2)) : ∀ {F : List Edge} {S : Ds}, (∀ e ∈ F, e ∈ E) → Good en E p S → Good en E p (F.foldl Ways.turn S) := by
  intro F
  induction F with
  | nil => intro S _ g; exact g
  | cons e F ih => intro S h g; exact ih (fun e m => h e (List.mem_cons_of_mem _ m)) (good_turn g (h e (List.mem_cons_self ..)) hE)
theorem Good.rounds {en : Nat → Nat × Nat} {E : List Edge} {p : Nat} (hE : ∀ e ∈ E, en e.1 = (e.2.1, e.2.2)) : ∀ {k : Nat} {S : Ds}, Good en E p S → Good en E p (rounds E k S)
  | 0, _, g => g
  | k + 1, _, g => Good.fold hE (fun e m => m) (Good.rounds hE (k := k) g)
theorem good0 {en : Nat → Nat × Nat} {E : List Edge} {p : Nat} : Good en E p [(p, [])] := by
  have cs : ∀ r (st : St), List.lookup r [(p, ([] : St))] = some st → r = p ∧ st = [] := by
    intro r st h
    by_cases c : r = p
    · subst c
      simp at h
      exact ⟨rfl, by first | exact h | exact h.symm⟩
    · have : (r == p) = false := by simpa using c
      simp [List.lookup, this] at h
  refine ⟨by simp, ?_, ?_, ?_⟩
  · intro r st h
    obtain ⟨rfl, rfl⟩ := cs r st h
    rfl
  · intro r st h
    obtain ⟨rfl, rfl⟩ := cs r st h
    simp
  · intro r st h
    obtain ⟨rfl, rfl⟩ := cs r st h
    simp
/-! ### all of the piece is found -/
def Closed (E : List Edge) (S : Ds) : Prop := ∀ e ∈ E, (Has S e.2.1 ↔ Has S e.2.2)
open Classical in
noncomputable def used (E : List Edge) (S : Ds) : Nat := E.countP fun e => decide (Both S e)
theorem used_le {E : List Edge} {S : Ds} : used E S ≤ E.length := List.countP_le_length
theorem used_mono {E : List Edge} {S T : Ds} (h : ∀ p, Has S p → Has T p) : used E S ≤ used E T := by
  unfold used
  refine List.countP_mono_left fun e _ he => ?_
  simp only [decide_eq_true_eq] at he ⊢
  exact ⟨h _ he.1, h _ he.2⟩
open Classical in
theorem used_lt {E : List Edge} {S T : Ds} {e : Edge} (h : ∀ p, Has S p → Has T p) (he : e ∈ E) (n : ¬ Both S e) (b : Both T e) : used E S < used E T := by
  induction E with
  | nil => cases he
  | cons x E ih =>
    unfold used
    rw [List.countP_cons, List.countP_cons]
    have m := used_mono (E := E) h
    unfold used at m
    rcases List.mem_cons.mp he with rfl | he
    · have e1 : decide (Both S e) = false := by simpa using n
      have e2 : decide (Both T e) = true := by simpa using b
      simp only [e1, e2]
      simp
      omega
    · have := ih he
      unfold used at this
      by_cases c : Both S x
      · have d : Both T x := ⟨h _ c.1, h _ c.2⟩
        simp only [c, d, decide_true, if_true]
        omega
      · simp only [c, decide_false]
        by_cases d : Both T x <;> simp [d] <;> omega
theorem closed_turn {E : List Edge} {S : Ds} {e : Edge} (h : Closed E S) (he : e ∈ E) : turn S e = S := by
  rcases turn_cases S e with ⟨q, _⟩ | ⟨q, h1, h2, _⟩ | ⟨q, h1, h2, _⟩
  · exact q
  · obtain ⟨st, hst⟩ := (h e he).mp ⟨q, h1⟩
    rw [h2] at hst
    cases hst
  · obtain ⟨st, hst⟩ := (h e he).mpr ⟨q, h2⟩
    rw [h1] at hst
    cases hst
theorem closed_fold {E : List Edge} {S : Ds} (h : Closed E S) : ∀ {F : List Edge}, (∀ e ∈ F, e ∈ E) → F.foldl turn S = S := by
  intro F
  induction F with
  | nil => intro _; rfl
  | cons e F ih =>
    intro hF
    show F.foldl turn (turn S e) = S
    rw [closed_turn h (hF e (List.mem_cons_self ..))]
    exact ih fun e m => hF e (List.mem_cons_of_mem _ m)
/-- a round leaves a closed list, or finds more -/
theorem fold_or {E : List Edge} : ∀ {F : List Edge} {S : Ds}, (∀ e ∈ F, e ∈ E) → (∀ e ∈ F, (Has S e.2.1 ↔ Has S e.2.2)) ∨ used E S < used E (F.foldl turn S) := by
  intro F
  induction F with
  | nil => intro S _; exact .inl fun e m => by cases m
  | cons e F ih =>
    intro S hF
    have up : ∀ p, Has S p → Has (F.foldl turn (turn S e)) p := fun p h => fold_has (turn_has h)
    have he := hF e (List.mem_cons_self ..)
    rcases turn_cases S e with ⟨q, hb⟩ | ⟨q, h1, h2, ht⟩ | ⟨q, h1, h2, ht⟩
    · rcases ih (S := S) (fun e m => hF e (List.mem_cons_of_mem _ m)) with h | h
      · refine .inl fun x m => ?_
        rcases List.mem_cons.mp m with rfl | m
        · exact hb
        · exact h x m
      · refine .inr ?_
        show used E S < used E (F.foldl turn (turn S e))
        rw [q]
        exact h
    · refine .inr (used_lt up he (fun b => ?_) ⟨up _ ⟨q, h1⟩, (fold_has (S := turn S e) ⟨q ++ [(e.1, true)], by rw [ht, lk_app, h2]; simp⟩ : Has (F.foldl turn (turn S e)) _)⟩)
      obtain ⟨st, hst⟩ := b.2
      rw [h2] at hst
      cases hst
    · refine .inr (used_lt up he (fun b => ?_) ⟨(fold_has (S := turn S e) ⟨q ++ [(e.1, false)], by rw [ht, lk_app, h1]; simp⟩ : Has (F.foldl turn (turn S e)) _), up _ ⟨q, h2⟩⟩)
      obtain ⟨st, hst⟩ := b.1
      rw [h1] at hst
      cases hst
theorem rounds_or {E : List Edge} {S : Ds} : ∀ k, Closed E (rounds E k S) ∨ k ≤ used E (rounds E k S)
  | 0 => .inr (Nat.zero_le _)
  | k + 1 => by
    rcases rounds_or (E := E) (S := S) k with h | h
    · refine .inl ?_
      show Closed E (round E (rounds E k S))
      unfold round
      rw [closed_fold h fun e m => m]
      exact h
    · rcases fold_or (E := E) (F := E) (S := rounds E k S) (fun e m => m) with c | c
      · refine .inl ?_
        show Closed E (round E (rounds E k S))
        unfold round
        rw [closed_fold c fun e m => m]
        exact c
      · exact .inr (Nat.lt_of_le_of_lt h c)
theorem all_closed {E : List Edge} {S : Ds} : Closed E (rounds E E.length S) := by
  rcases rounds_or (E := E) (S := S) E.length with h | h
  · exact h
  · intro e he
    have q : used E (rounds E E.length S) = E.length := Nat.le_antisymm used_le h
    unfold used at q
    have := List.countP_eq_length.mp q e he
    have b : Both (rounds E E.length S) e := by simpa using this
    exact ⟨fun _ => b.2, fun _ => b.1⟩
/-- what is found hangs together with p -/
theorem found_like {E : List Edge} {R : Nat → Nat} (hR : ∀ e ∈ E, R e.2.1 = R e.2.2) : ∀ {F : List Edge} {S : Ds} {p : Nat}, (∀ e ∈ F, e ∈ E) → (∀ q, Has S q → R q = R p) → ∀ q, Has (F.foldl turn S) q → R q = R p := by
  intro F
  induction F with
  | nil => intro S p _ h; exact h
  | cons e F ih =>
    intro S p hF h
    refine ih (fun e m => hF e (List.mem_cons_of_mem _ m)) fun q hq => ?_
    have he := hF e (List.mem_cons_self ..)
    obtain ⟨st, hq⟩ := hq
    rcases turn_cases S e with ⟨z, _⟩ | ⟨z, h1, h2, ht⟩ | ⟨z, h1, h2, ht⟩
    · rw [z] at hq
      exact h q ⟨st, hq⟩
    · rw [ht, lk_app] at hq
      cases hs : S.lookup q with
      | some y => exact h q ⟨y, hs⟩
      | none =>
        rw [hs] at hq
        by_cases c : q = e.2.2
        · rw [c, ← hR e he]
          exact h _ ⟨z, h1⟩
        · simp [c] at hq
    · rw [ht, lk_app] at hq
      cases hs : S.lookup q with
      | some y => exact h q ⟨y, hs⟩
      | none =>
        rw [hs] at hq
        by_cases c : q = e.2.1
        · rw [c, hR e he]
          exact h _ ⟨z, h2⟩
        · simp [c] at hq
theorem rounds_like {E : List Edge} {R : Nat → Nat} (hR : ∀ e ∈ E, R e.2.1 = R e.2.2) {S : Ds} {p : Nat} (h : ∀ q, Has S q → R q = R p) : ∀ k q, Has (rounds E k S) q → R q = R p
  | 0, q, hq => h q hq
  | k + 1, q, hq => found_like hR (fun e m => m) (rounds_like hR h k) q hq
end Ways
namespace Ways
theorem turn_len {S : Ds} {e : Edge} : (turn S e).length ≤ S.length + 1 := by
  rcases turn_cases S e with ⟨q, _⟩ | ⟨q, _, _, r⟩ | ⟨q, _, _, r⟩
  · rw [q]; omega
  · rw [r, List.length_append]; simp
  · rw [r, List.length_append]; simp
theorem fold_len : ∀ {E : List Edge} {S : Ds}, (E.foldl turn S).length ≤ S.length + E.length
  | [], S => Nat.le_refl _
  | e :: E, S => by
    have h1 := turn_len (S := S) (e := e)
    have h2 := fold_len (E := E) (S := turn S e)
    show (E.foldl turn (turn S e)).length ≤ S.length + (E.length + 1)
    omega
theorem rounds_len {E : List Edge} {S : Ds} : ∀ k, (rounds E k S).length ≤ S.length + k * E.length
  | 0 => by show S.length ≤ _; omega
  | k + 1 => by
    have h1 := rounds_len (E := E) (S := S) k
    have h2 := fold_len (E := E) (S := rounds E k S)
    show (E.foldl turn (rounds E k S)).length ≤ _
    rw [Nat.succ_mul]
    omega
def Short (S : Ds) : Prop := ∀ q st, S.lookup q = some st → st.length ≤ S.length
theorem short_turn {S : Ds} {e : Edge} (h : Short S) : Short (turn S e) := by
  have key : ∀ (b : Nat) (x : St), x.length ≤ S.length + 1 → turn S e = S ++ [(b, x)] → Short (turn S e) := by
    intro b x hx ht q st hq
    rw [ht] at hq ⊢
    rw [lk_app] at hq
    rw [List.length_append]
    cases hs : S.lookup q with
    | some y =>
      rw [hs] at hq
      have := h q y hs
      have e : y = st := Option.some.inj hq
      rw [← e]
      omega
    | none =>
      rw [hs] at hq
      by_cases c : q = b
      · have e : x = st := by simpa [c] using hq
        rw [← e]
        exact hx
      · simp [c] at hq
  rcases turn_cases S e with ⟨q, _⟩ | ⟨q, h1, _, r⟩ | ⟨q, _, h1, r⟩
  · rw [q]; exact h
  · refine key _ _ ?_ r
    have := h _ _ h1
    rw [List.length_append]
    simp only [List.length_cons, List.length_nil]
    omega
  · refine key _ _ ?_ r
    have := h _ _ h1
    rw [List.length_append]
    simp only [List.length_cons, List.length_nil]
    omega
theorem short_fold : ∀ {E : List Edge} {S : Ds}, Short S → Short (E.foldl turn S)
  | [], _, h => h
  | _ :: E, _, h => short_fold (E := E) (short_turn h)
theorem short_rounds {E : List Edge} {S : Ds} (h : Short S) : ∀ k, Short (rounds E k S)
  | 0 => h
  | k + 1 => short_fold (short_rounds h k)
theorem short0 {p : Nat} : Short [(p, [])] := by
  intro q st h
  by_cases c : q = p
  · subst c
    simp at h
    subst h
    simp
  · have : (q == p) = false := by simpa using c
    simp [List.lookup, this] at h
end Ways
namespace Hang
theorem runs_mem : ∀ {es : List (Nat × Nat)} {k : Nat} {P W : List Nat} {x : Nat}, x ∈ W → x ∈ (runs es k P W).2
  | [], _, _, _, _, h => h
  | (a, b) :: es, k, P, W, x, h => by
    show x ∈ (if P.getD a 0 = P.getD b 0 then runs es (k + 1) P W else runs es (k + 1) (step P (P.getD a 0) (P.getD b 0)) (W ++ [k])).2
    by_cases q : P.getD a 0 = P.getD b 0
    · rw [if_pos q]; exact runs_mem h
    · rw [if_neg q]; exact runs_mem (List.mem_append_left _ h)
theorem runs_eq {n : Nat} : ∀ {es : List (Nat × Nat)} {k : Nat} {P W : List Nat} {i j : Nat}, (∀ e ∈ es, e.1 < n ∧ e.2 < n) → P.length = n → i < n → j < n → P.getD i 0 = P.getD j 0 → (runs es k P W).1.getD i 0 = (runs es k P W).1.getD j 0
  | [], _, _, _, _, _, _, _, _, _, h => h
  | (a, b) :: es, k, P, W, i, j, hes, l, hi, hj, h => by
    have hes' : ∀ e ∈ es, e.1 < n ∧ e.2 < n := fun e m => hes e (List.mem_cons_of_mem _ m)
    have eR : runs ((a, b) :: es) k P W = if P.getD a 0 = P.getD b 0 then runs es (k + 1) P W else runs es (k + 1) (step P (P.getD a 0) (P.getD b 0)) (W ++ [k]) := rfl
    rw [eR]
    by_cases q : P.getD a 0 = P.getD b 0
    · rw [if_pos q]
      exact runs_eq hes' l hi hj h
    · rw [if_neg q]
      refine runs_eq hes' (by rw [len_step]; exact l) hi hj ?_
      rw [at_step (by omega), at_step (by omega), h]
/-- both ends of a tie hang together -/
theorem same_end {n : Nat} : ∀ {es : List (Nat × Nat)} {k : Nat} {P W : List Nat}, (∀ e ∈ es, e.1 < n ∧ e.2 < n) → P.length = n → ∀ e ∈ es, (runs es k P W).1.getD e.1 0 = (runs es k P W).1.getD e.2 0
  | [], _, _, _, _, _, e, he => by cases he
  | (a, b) :: es, k, P, W, hes, l, e, he => by
    have hes' : ∀ e ∈ es, e.1 < n ∧ e.2 < n := fun e m => hes e (List.mem_cons_of_mem _ m)
    obtain ⟨ha, hb⟩ : a < n ∧ b < n := hes (a, b) (List.mem_cons_self ..)
    have eR : runs ((a, b) :: es) k P W = if P.getD a 0 = P.getD b 0 then runs es (k + 1) P W else runs es (k + 1) (step P (P.getD a 0) (P.getD b 0)) (W ++ [k]) := rfl
    rw [eR]
    by_cases q : P.getD a 0 = P.getD b 0
    · rw [if_pos q]
      rcases List.mem_cons.mp he with rfl | he
      · exact runs_eq hes' l ha hb q
      · exact same_end hes' l e he
    · rw [if_neg q]
      rcases List.mem_cons.mp he with rfl | he
      · refine runs_eq (i := a) (j := b) hes' (by rw [len_step]; exact l) ha hb ?_
        show (step P (P.getD a 0) (P.getD b 0)).getD a 0 = (step P (P.getD a 0) (P.getD b 0)).getD b 0
        rw [at_step (by omega), at_step (by omega)]
        by_cases c : P.getD a 0 = max (P.getD a 0) (P.getD b 0)
        · rw [if_pos c, if_neg (by omega)]
          omega
        · rw [if_neg c, if_pos (by omega)]
          omega
      · exact same_end hes' (by rw [len_step]; exact l) e he
/-- what the wood keeps apart or not, the marks do -/
theorem conn {n : Nat} {X : Nat → Prop} : ∀ {es : List (Nat × Nat)} {k : Nat} {P W : List Nat}, (∀ e ∈ es, e.1 < n ∧ e.2 < n) → P.length = n → (∀ j a b, es[j]? = some (a, b) → k + j ∈ (runs es k P W).2 → (X a ↔ X b)) →
    (∀ i j, i < n → j < n → P.getD i 0 = P.getD j 0 → (X i ↔ X j)) → ∀ i j, i < n → j < n → (runs es k P W).1.getD i 0 = (runs es k P W).1.getD j 0 → (X i ↔ X j)
  | [], _, _, _, _, _, _, h => h
  | (a, b) :: es, k, P, W, hes, l, hw, h => by
    have hes' : ∀ e ∈ es, e.1 < n ∧ e.2 < n := fun e m => hes e (List.mem_cons_of_mem _ m)
    obtain ⟨ha, hb⟩ : a < n ∧ b < n := hes (a, b) (List.mem_cons_self ..)
    have eR : runs ((a, b) :: es) k P W = if P.getD a 0 = P.getD b 0 then runs es (k + 1) P W else runs es (k + 1) (step P (P.getD a 0) (P.getD b 0)) (W ++ [k]) := rfl
    rw [eR] at hw ⊢
    have sh : ∀ j, k + (j + 1) = k + 1 + j := fun j => by omega
    by_cases q : P.getD a 0 = P.getD b 0
    · rw [if_pos q] at hw ⊢
      exact conn hes' l (fun j c d hj hm => hw (j + 1) c d (by simpa using hj) (by rw [show k + (j + 1) = k + 1 + j from by omega]; exact hm)) h
    · rw [if_neg q] at hw ⊢
      have hab : X a ↔ X b := hw 0 a b rfl (runs_mem (List.mem_append_right _ (by simp)))
      refine conn hes' (by rw [len_step]; exact l) (fun j c d hj hm => hw (j + 1) c d (by simpa using hj) (by rw [show k + (j + 1) = k + 1 + j from by omega]; exact hm)) fun i j hi hj hij => ?_
      rw [at_step (by omega), at_step (by omega)] at hij
      have toA : ∀ m, m < n → P.getD m 0 = P.getD a 0 → (X m ↔ X a) := fun m hm e => h m a hm ha e
      have toB : ∀ m, m < n → P.getD m 0 = P.getD b 0 → (X m ↔ X b) := fun m hm e => h m b hm hb e
      have side : ∀ m, m < n → (P.getD m 0 = max (P.getD a 0) (P.getD b 0) ∨ P.getD m 0 = min (P.getD a 0) (P.getD b 0)) → (X m ↔ X a) := fun m hm e => by
        by_cases c : P.getD m 0 = P.getD a 0
        · exact toA m hm c
        · exact (toB m hm (by omega)).trans hab.symm
      by_cases c1 : P.getD i 0 = max (P.getD a 0) (P.getD b 0)
      · rw [if_pos c1] at hij
        by_cases c2 : P.getD j 0 = max (P.getD a 0) (P.getD b 0)
        · exact (side i hi (.inl c1)).trans (side j hj (.inl c2)).symm
        · rw [if_neg c2] at hij
          exact (side i hi (.inl c1)).trans (side j hj (.inr hij.symm)).symm
      · rw [if_neg c1] at hij
        by_cases c2 : P.getD j 0 = max (P.getD a 0) (P.getD b 0)
        · rw [if_pos c2] at hij
          exact (side i hi (.inr hij)).trans (side j hj (.inl c2)).symm
        · rw [if_neg c2] at hij
          exact h i j hi hj hij
/-- the wood's ties by number -/
def woodE (es : List (Nat × Nat)) (W : List Nat) : List Ways.Edge := W.map fun k => (k, es.getD k (0, 0))
/-- what is found from a place is just its piece -/
theorem way_piece {n : Nat} {es : List (Nat × Nat)} (hes : ∀ e ∈ es, e.1 < n ∧ e.2 < n) (hW : ∀ k ∈ (hung n es).2, k < es.length) {p q : Nat} (hp : p < n) (hq : q < n) :
    Ways.Has (Ways.rounds (woodE es (hung n es).2) (woodE es (hung n es).2).length [(p, [])]) q ↔ (hung n es).1.getD p 0 = (hung n es).1.getD q 0 := by
  have len : (List.range n).length = n := List.length_range
  have at1 : ∀ k, k < es.length → es.getD k (0, 0) ∈ es := fun k h => by
    rw [List.getD_eq_getElem?_getD, List.getElem?_eq_getElem h]
    exact List.getElem_mem ..
  have h0 : Ways.Has (Ways.rounds (woodE es (hung n es).2) (woodE es (hung n es).2).length [(p, [])]) p := by
    have g := Ways.Good.rounds (E := woodE es (hung n es).2) (p := p) (en := fun k => es.getD k (0, 0)) (fun e he => by
      obtain ⟨k, _, rfl⟩ := List.mem_map.mp he
      rfl) (k := (woodE es (hung n es).2).length) Ways.good0
    exact ⟨[], g.start⟩
  constructor
  · intro h
    have := Ways.rounds_like (E := woodE es (hung n es).2) (R := fun i => (hung n es).1.getD i 0) (S := [(p, [])]) (p := p) (fun e he => by
      obtain ⟨k, hk, rfl⟩ := List.mem_map.mp he
      exact same_end hes len _ (at1 k (hW k hk))) (fun r hr => by
      obtain ⟨st, hr⟩ := hr
      by_cases c : r = p
      · rw [c]
      · have : (r == p) = false := by simpa using c
        simp [List.lookup, this] at hr) _ q h
    exact this.symm
  · intro h
    have cl := Ways.all_closed (E := woodE es (hung n es).2) (S := [(p, [])])
    refine (conn (X := fun r => Ways.Has (Ways.rounds (woodE es (hung n es).2) (woodE es (hung n es).2).length [(p, [])]) r) (es := es) (k := 0) (P := List.range n) (W := []) hes len (fun j a b hj hm => ?_) (fun i j hi hj e => ?_) p q hp hq h).mp h0
    · rw [Nat.zero_add] at hm
      have hm : j ∈ (hung n es).2 := hm
      have e : es.getD j (0, 0) = (a, b) := by rw [List.getD_eq_getElem?_getD, hj]; rfl
      have := cl (j, es.getD j (0, 0)) (List.mem_map.mpr ⟨j, hm, rfl⟩)
      rw [e] at this
      exact this
    · have : ∀ m, m < n → (List.range n).getD m 0 = m := fun m hm => by
        rw [List.getD_eq_getElem?_getD, List.getElem?_range hm]
        rfl
      rw [this i hi, this j hj] at e
      rw [e]
theorem runs_wood : ∀ {es : List (Nat × Nat)} {k : Nat} {P W : List Nat} {m : Nat}, (∀ x ∈ W, x < m) → k + es.length ≤ m → ∀ x ∈ (runs es k P W).2, x < m
  | [], _, _, _, _, h, _, x, hx => h x hx
  | (a, b) :: es, k, P, W, m, h, hk, x, hx => by
    rw [List.length_cons] at hk
    have eR : runs ((a, b) :: es) k P W = if P.getD a 0 = P.getD b 0 then runs es (k + 1) P W else runs es (k + 1) (step P (P.getD a 0) (P.getD b 0)) (W ++ [k]) := rfl
    rw [eR] at hx
    by_cases q : P.getD a 0 = P.getD b 0
    · rw [if_pos q] at hx
      exact runs_wood h (by omega) x hx
    · rw [if_neg q] at hx
      refine runs_wood (fun y hy => ?_) (by omega) x hx
      rcases List.mem_append.mp hy with hy | hy
      · exact h y hy
      · have : y = k := by simpa using hy
        omega
theorem wood_lt {n : Nat} {es : List (Nat × Nat)} : ∀ k ∈ (hung n es).2, k < es.length := runs_wood (fun x h => by cases h) (by omega)
end Hang
namespace PySem.W
open PySem PySem.Spec PySem.Calls PyProof.Rows Builtin Builtin.ObjectAttr Builtin.Getset_descriptor
section
variable {prog : Program} {w : World} {A : Around} {E : Value → Shared → Prop} {s : Shared} {K : Frag}
/-- self.__class__, self an exception that is being made -/
theorem st_class {x C : Addr} {ox : Obj} {expr : Bool} {Q : Value → Shared → Prop} (T : L2.ExcC K C) (X : K.In s.heap) (I : InstAt s.heap x ox C none) (h : Q (.ref C) { s with toks := s.toks + 1 }) :
    wpAny (model prog w) A (getAttr (.ref x) "__class__" expr) Q E s := by
  have some1 : (clsIn K C).isSome = true := by
    obtain ⟨cd, hc, _⟩ := any_some T.hd
    rw [hc]
    rfl
  have found := findObj_dataN some1 T.ha T.hn T.ht
  obtain ⟨hh, g, dr, tk, os⟩ := s
  have l0 := I.type (M := model prog w)
  have l1 := looks_findIn (M := model prog w) X T.hg
  have l2 := looks_findIn (M := model prog w) X T.hk
  have l3 := looks_find (M := model prog w) X I found
  have isB : Looks (model prog w) hh (isInstance (.ref x) (.type "BaseException")) true := l0.andThen (looks_subIn X T.hs)
  have ne1 : (Value.builtin "BaseException.__getattribute__" == Value.builtin "object.__getattribute__") = false := by decide +kernel
  have b0 : (expr && onTheHeap (Value.builtin "BaseException.__getattribute__")) = false := by
    cases expr <;> rfl
  have b1 : (onTheHeap (Value.ref C) && Value.builtin "BaseException.__getattribute__" == Value.builtin "object.__getattribute__") = false := by
    rw [ne1]
    rfl
  unfold getAttr getAttrBy
  refine wpAny_bind (wpAny_mkText (wpAny_holding (wpAny_bind (l0.at (wpAny_bind (l1.at ?_))))))
  dsimp only
  rw [b1, if_neg Bool.false_ne_true]
  unfold getAttrByItsOwn
  refine wpAny_bind ?_
  unfold hookBefore
  rw [if_pos (show onTheHeap (Value.ref C) = true from rfl)]
  refine l2.at (wpAny_bind (wpAny_attempt (wpAny_holding ?_)))
  unfold callGetattribute
  rw [b0, if_neg Bool.false_ne_true]
  unfold boundAndCalled
  rw [PySem.F.excAttr_ValueError.ga.bind (.ref x)]
  refine wpAny_bind (wpAny_pure ?_)
  refine wpAny_call (codeAny_call_builtin (args := ⟨[.ref x, .str "__class__" tk], []⟩) PySem.F.excAttr_ValueError.ga.plain PySem.F.entry_bexc_ga ?_)
  refine @check_slot (model prog w) _ _ ⟨hh, g, dr, tk + 1, os⟩ "BaseException.__getattribute__" "BaseException" "__getattribute__" (.ref x) [.str "__class__" tk] [] _ (by decide +kernel) (by decide +kernel) isB (PySem.F.args_bexc_ga _ _) ?_
  unfold Builtin.«object.__getattribute__»
  refine wpAny_bind (wpAny_of_eq (a := ((Value.ref x : Value), [Value.str "__class__" tk])) (by first | rfl | (simp only [slotArgs]; rfl)) ?_)
  refine wpAny_bind (wpAny_pure (wpAny_bind (l0.at (wpAny_bind (l3.at ?_)))))
  dsimp only
  refine wpAny_bind (wpAny_holding (wpAny_call (class_get (s := ⟨hh, g, dr, tk + 1, os⟩) (ox := ox) (od := none) X I T.hm ?_)))
  refine wpAny_pure ?_
  show wpAny _ _ (handedOut (.ref C)) _ _ _
  rw [handedOut_of (v := .ref C) rfl]
  first
    | exact wpAny_pure h
    | exact wpAny_pure (wpAny_pure h)
/-- C.__name__, C a class of the program -/
theorem st_dga (d tp : Value) (C : Addr) : descrGetArgs ⟨[d, .ref C, tp], []⟩ = pure (d, some (.ref C), given tp) := by kernel_rfl
theorem st_name_get {C : Addr} {tp nv : Value} {ob : Obj} {R : Result → Shared → Prop} (X : K.In s.heap) (ht : typeIn K (.ref C) = some (.type "type")) (ho : s.heap.get? C = some ob) (hs : ob.slots[2]? = some (some nv))
    (h : R (.ok (.ret nv)) s) : codeAny (model prog w) A (.call (.builtin "getset_descriptor.__get__") ⟨[.builtin "type.__name__", .ref C, tp], []⟩) R s := by
  obtain ⟨hh, g, dr, tk, os⟩ := s
  have L0 : Looks (model prog w) hh (typeOf (.ref C)) (.type "type") := looks_typeIn X ht
  have L1 : Looks (model prog w) hh (isSubtype (.type "type") (.type "type")) true := Looks.of_pure (by rw [isSubtype_type]; kernel_rfl)
  refine codeAny_call_builtin KF.slot_gs.plain KF.entry_gs (KF.slot_gs.check _ _ _ _ _ _ _ _ ktyn_type (KF.args_gs _ _ _) ?_)
  unfold Builtin.«getset_descriptor.__get__» descrGet
  rw [st_dga]
  refine wpAny_bind (wpAny_pure ?_)
  unfold descrGetter descrCheckInstance descrNameAndClass isInstance
  simp only [ktyn_owner]
  repeat lk
  refine ⟨Code.quiet_builtin _ (by decide +kernel), codeAny_builtin ktyn_entry ?_⟩
  unfold Builtin.«type.__name__»
  dsimp only
  unfold keptObject slotAt
  have e : (ob.slots[2]?).join = some nv := by rw [hs]; rfl
  refine wpAny_bind (wpAny_bind (wpAny_loadPart_at ho (wpAny_pure ?_)))
  rw [e]
  first
    | exact wpAny_pure h
    | exact wpAny_bind (wpAny_pure (wpAny_pure h))
    | exact wpAny_bind (wpAny_pure h)
end
end PySem.W
namespace L2
open PySem PySem.Spec PyProof.Rows
/-! ### try with several clauses «except C as n», all of one name n -/
abbrev Clause := Value × (Addr → Value → Option Addr → TS)
/-- the ends of a suite that had the name in slot i: it is empty behind -/
def endsOff (i : Nat) (D : Ends) : Ends := { nx := fun σ H => D.nx (σ.set i none) H, rt := D.rt, bk := fun σ H => D.bk (σ.set i none) H, ct := fun σ H => D.ct (σ.set i none) H }
def wClauses (K : PySem.W.Frag) (i : Nat) (W0 : WX) (D : Ends) : List Clause → WX
  | [] => W0
  | p :: r => fun cls d σ H => ∃ b, PySem.W.exmOne K cls p.1 = some b ∧ (b = true → ∀ a, H a = none → p.2 a cls d (endsOff i D) (σ.set i (some (.ref a))) H) ∧ (b = false → wClauses K i W0 D r cls d σ H)
inductive ClausesOk (X : Cx) (n : Str) : List ExceptHandler → List Clause → Prop
  | nil : ClausesOk X n [] []
  | cons {x : Str} {c : Value} {ts : Addr → Value → Option Addr → TS} {st0 : Stmt} {sts : List Stmt} {p1 p2 : Pos} {hds : List ExceptHandler} {l : List Clause} (hc : Names X x c)
      (hsu : ∀ (a : Addr) (oe : Obj) (cls : Value) (d : Option Addr) (pn : List (Addr × Obj)), Zc cls d oe → (∃ vs, oe.data = .fields vs) → PSs (X.suite a ((a, oe) :: pn)) (st0 :: sts) (ts a cls d))
      (r : ClausesOk X n hds l) : ClausesOk X n (.ExceptHandler (some (.Name x p1)) (some n) (st0 :: sts) p2 :: hds) ((c, ts) :: l)
section
variable {X : Cx} {n : Str} {i : Nat} {body : List Stmt} {hd0 : ExceptHandler} {hds : List ExceptHandler} {l : List Clause} {pos : Pos} {tb : WX → TS} {W0 : WX}
theorem ps_try_clauses (hst : X.stack = X.env :: X.outer) (hfm : X.env.frame = some X.env.locals) (hnd : X.N.Nodup) (hi : X.N[i]? = some n) (hln : X.env.kindOf n = some .local) (tk : Takes X W0)
    (hb : ∀ (W : WX) (pn : List (Addr × Obj)) (xe : Value → Shared → Prop), Takes (X.tr pn xe) W → PassesOwn (model X.prog X.w) X.A X.env xe → PSs (X.tr pn xe) body (tb W))
    (hh : ClausesOk X n (hd0 :: hds) l) : PS X (.Try body (hd0 :: hds) [] [] pos) (fun D σ H => tb (wClauses X.K i W0 D l) D σ H) := by
  refine ⟨fun pins st σ H D Iv hyp => ?_⟩
  have okX := Iv.ok
  have frs1 : X.A.frames = some (X.env :: X.outer) := by
    rw [okX.frames]
    rw [hst]
  have locN : Loc X.env.scope n := .inl hln
  refine wpAny_Try_except (wpAny_mono ((hb (wClauses X.K i W0 D l) (X.pn ++ pins) (fun ev t1 => wpAny (model X.prog X.w) X.A (noteFrame ev X.env)
    (fun _ t2 => wpAny (model X.prog X.w) X.A (setFlight ev none) (fun _ t3 => wpAny (model X.prog X.w) X.A (handleBy ev X.env (hd0 :: hds)) (SP X pins D) X.xe t3) X.xe t2) X.xe t1)
    (fun uv t0 caught => ?_) PassesOwn.looking).run [] st σ H D (Iv.toTry _) hyp) (fun fl t1 sp1 => ?_) (fun _ _ z => z))
  · obtain ⟨ea, Gr, tI, pins2, σ2, H2, cls, dd, rfl, Jt, nbare, upb, skyb, nea, osb, agb, wish⟩ := caught
    have Jv : Inv X pins σ2 H2 tI := Jt.ofTry okX
    have sky2 : Sky Gr (X.env :: X.outer) ea (Zc cls dd) X.env.locals t0.heap := by
      rw [← hst]
      exact skyb
    refine Sky.land Zc.steady frs1 hfm sky2 fun g3 fly3 up3 => ?_
    have Jv3 : Inv X pins σ2 H2 { t0 with heap := g3 } := Jv.landed nbare fly3.1 (upb.trans up3) osb agb
    obtain ⟨o3, f3, get3, zc3, dat3⟩ := fly3.there
    have nfr : ea ∉ frs (X.env :: X.outer) := fun hm => by
      obtain ⟨_, oq, eq', hq⟩ := fly3.2.2.1.mem hm
      rw [get3] at eq'
      cases eq'
      exact hq _ dat3
    have nLoc : ea ≠ X.env.locals := fun z => nfr (List.mem_filterMap.mpr ⟨X.env, List.mem_cons_self, by rw [hfm, z]⟩)
    have nFs : ea ∉ X.fs := fun hm => by
      obtain ⟨ev, hev, q⟩ := List.mem_filterMap.mp hm
      exact nfr (List.mem_filterMap.mpr ⟨ev, List.mem_cons_of_mem _ hev, q⟩)
    have Sv3 := Jv3.suite get3 dat3 nea nLoc nFs
    have run : ∀ {hq : List ExceptHandler} {lq : List Clause}, ClausesOk X n hq lq → wClauses X.K i W0 D lq cls dd σ2 H2 → wpAny (model X.prog X.w) X.A (handleBy (.ref ea) X.env hq) (SP X pins D) X.xe { t0 with heap := g3 } := by
      intro hq lq hk
      induction hk with
      | nil =>
        intro wq
        refine wpAny_handleBy_nil ?_
        obtain ⟨_, _, _, oq, vq, T, oT, tq, geq, zq, dq, h1q, hrq⟩ := id fly3
        unfold PySem.passOn
        refine wpAny_bind (wpAny_field geq dq h1q ?_)
        rw [if_neg (show ¬ ((Value.ref T == Value.none) = true) by simp)]
        have out : wpAny (model X.prog X.w) X.A (setFlight (.ref ea) X.env.frame) (fun _ t4 => wpAny (model X.prog X.w) X.A (throw (.ref ea) : Sem Flow) (SP X pins D) X.xe t4) X.xe { t0 with heap := g3 } := by
          rw [hfm]
          refine HandSPX.setFlight_upZ fly3 fun g4 hg4 up4 => wpAny_throw (tk _ _ ?_)
          exact ⟨ea, Gr, tI, pins, σ2, H2, cls, dd, rfl, Jv, nbare, (upb.trans up3).trans up4, .inr (.inr (by rw [hst]; exact hg4)), nea, osb, agb, wq⟩
        first
          | exact wpAny_bind out
          | exact wpAny_bind (wpAny_pure (wpAny_bind out))
      | @cons xq cq tsq stq stsq p1 p2 hdq lq hcq hsq rq ih =>
        intro wq
        obtain ⟨b, eb, yes, no⟩ := wq
        refine wpAny_handleBy_cons (codeAny_handlers_test ?_) (fun q => by cases q)
        have lookT : PySem.W.Looks (model X.prog X.w) g3 (typeOf (.ref ea)) cls := fun A1 Q1 E1 s1 kq qq => wpAny_typeOf_ref (kq _ _ get3) (by rw [zc3.1]; exact qq)
        have lookM := PySem.W.exm_one (M := model X.prog X.w) Jv3.kIn lookT eb
        have named : ∀ {Q1 E1 : Value → Shared → Prop}, Q1 cq { t0 with heap := g3 } → wpAny (model X.prog X.w) (X.A.mark (some (.ref ea))) (eval (.Name xq p1) X.env) Q1 E1 { t0 with heap := g3 } := by
          intro Q1 E1 qq
          obtain ⟨g1, g2, g4 | ⟨g4, g5, g6⟩⟩ := hcq
          · exact ld_glob (X := X.suite ea ((ea, o3) :: (X.pn ++ pins))) Sv3 g1 g4 qq g2
          · exact ld_blt (X := X.suite ea ((ea, o3) :: (X.pn ++ pins))) Sv3 g1 g4 g5 qq g6 g2
        refine named (lookM.here ?_)
        cases b with
        | false =>
          show wpAny _ X.A (handleBy (.ref ea) X.env hdq) _ _ _
          exact ih (no rfl)
        | true =>
          refine codeAny_handlers_suite_as (HandSPX.lands_againZ fly3 fun g4 fly4 up4 => ?_)
          have Jv4 : Inv X pins σ2 H2 { t0 with heap := g4 } := Jv.landed nbare fly4.1 ((upb.trans up3).trans up4) osb agb
          obtain ⟨o4, f4, get4, zc4, dat4⟩ := fly4.there
          have Sv4 := Jv4.suite get4 dat4 nea nLoc nFs
          refine store_ok (X := X.suite ea ((ea, o4) :: (X.pn ++ pins))) (v := .ref ea) Sv4 hnd hi locN rfl (fun t5 Sv5 => ?_) (.inr hln)
          refine wpAny_mono ((hsq ea o4 cls dd (X.pn ++ pins) zc4 ⟨_, dat4⟩).run [] t5 _ H2 _ Sv5 (yes rfl ea nea)) (fun fl t6 sp6 => ?_) (fun _ _ z => z.elim)
          have off : ∀ {σ6 : St} {H6 : Hp} {Q : Shared → Prop}, Inv (X.suite ea ((ea, o4) :: (X.pn ++ pins))) [] σ6 H6 t6 → (∀ t7, Inv X pins (σ6.set i none) H6 t7 → Q t7) →
              wpAny (model X.prog X.w) X.A (do bindName X.env n .none; unbindBehindTheSuite X.env n p2) (fun _ t7 => Q t7) X.xe t6 := fun {_ _ _} S6 hq => gone_ok (S6.unsuite okX) hnd hi hln hq
          cases fl with
          | ret u =>
            obtain ⟨v6, σ6, H6, S6, r6, q6⟩ := sp6
            exact off S6 fun t7 J7 => ⟨_, _, _, J7, r6, q6⟩
          | next =>
            obtain ⟨σ6, H6, S6, q6⟩ := sp6
            exact off S6 fun t7 J7 => ⟨_, _, J7, q6⟩
          | brk =>
            obtain ⟨σ6, H6, S6, q6⟩ := sp6
            exact off S6 fun t7 J7 => ⟨_, _, J7, q6⟩
          | cont =>
            obtain ⟨σ6, H6, S6, q6⟩ := sp6
            exact off S6 fun t7 J7 => ⟨_, _, J7, q6⟩
    exact run hh wish
  · cases fl with
    | ret u =>
      obtain ⟨v1, σ1, H1, J1, r1, q1⟩ := sp1
      exact ⟨v1, σ1, H1, J1.ofTry okX, r1, q1⟩
    | next =>
      obtain ⟨σ1, H1, J1, q1⟩ := sp1
      exact wpAny_execs_nil ⟨σ1, H1, J1.ofTry okX, q1⟩
    | brk =>
      obtain ⟨σ1, H1, J1, q1⟩ := sp1
      exact ⟨σ1, H1, J1.ofTry okX, q1⟩
    | cont =>
      obtain ⟨σ1, H1, J1, q1⟩ := sp1
      exact ⟨σ1, H1, J1.ofTry okX, q1⟩
end
/-! ### self.__class__ and C.__name__ -/
structure CName (K : PySem.W.Frag) (C : Addr) (nm : Str) : Prop where
  ht : PySem.W.typeIn K (.ref C) = some (.type "type")
  hr : PySem.W.readsIn K C (.type "type") = true
  hf : PySem.W.findCls K (.ref C) (.type "type") "__name__" = some (.get (.builtin "getset_descriptor.__get__") (.builtin "type.__name__") (.ref C) (.type "type"))
  ob : ∃ (ob : Obj) (tk : Tok), K.lookup C = some ob ∧ ob.slots[2]? = some (some (.str nm tk))
def tClassOf (K : PySem.W.Frag) (te : TE) : TE := fun σ H Q => te σ H fun x H1 => ∃ a C : Addr, x = .ref a ∧ H1 a = some (exo a C none) ∧ ExcC K C ∧ Q (.ref C) H1
def tNameOf (K : PySem.W.Frag) (te : TE) : TE := fun σ H Q => te σ H fun x H1 => ∃ (C : Addr) (nm : Str), x = .ref C ∧ CName K C nm ∧ Q (.str nm) H1
section
variable {X : Cx} {e : Expr} {te : TE} {pos : Pos}
theorem pe_classOf (he : PE X e te) (hb : attributeBase e "__class__" X.env (eval e X.env) = eval e X.env := by rfl) : PE X (.Attribute e "__class__" pos) (tClassOf X.K te) := by
  refine ⟨fun pins s σ H Q I h => ?_⟩
  refine attr_of hb (thn (he.run pins s σ H _ I h) fun u s1 ⟨x, H1, I1, rx, a, C, ex, ea, T, q⟩ => ?_)
  subst ex
  obtain rfl : u = Value.ref a := rx
  obtain ⟨t1, ho⟩ := exo_at I1.hok ea
  exact PySem.W.st_class T I1.kIn (ox := { cls := .ref C, dict := none, data := .fields #[.ref t1, .none, .none, .none, .bool false, .none] }) ⟨ho, rfl, rfl, trivial⟩ ⟨.ref C, H1, I1.tok _, rfl, q⟩
theorem pe_nameOf (he : PE X e te) (hb : attributeBase e "__name__" X.env (eval e X.env) = eval e X.env := by rfl) : PE X (.Attribute e "__name__" pos) (tNameOf X.K te) := by
  refine ⟨fun pins s σ H Q I h => ?_⟩
  refine attr_of hb (thn (he.run pins s σ H _ I h) fun u s1 ⟨x, H1, I1, rx, C, nm, ex, T, q⟩ => ?_)
  subst ex
  obtain rfl : u = Value.ref C := rx
  obtain ⟨ob, tk, ho, hs⟩ := T.ob
  refine PySem.W.cls_bind I1.kIn T.hr T.hf (wpAny_call (PySem.W.st_name_get (s := { s1 with toks := s1.toks + 1 }) I1.kIn T.ht (I1.kIn _ _ ho) hs ?_))
  exact PySem.W.handed_on rfl ⟨.str nm, H1, I1.tok _, ⟨_, rfl⟩, q⟩
end
end L2
namespace LamX
open PySem PySem.Spec PyProof.Rows L2
section
variable {X : Cx} {pins : List (Addr × Obj)} {σ : L2.St} {H : Hp} {s : Shared}
/-- a(), a the lambda that was got; what it lets out is wished for at the slots as they stand then -/
theorem pe_askS {CXg : CXT} {Eg : XK} {Ng : List Str} {qg : Str} {sg : Scope} {g f c' : Addr} {cdg pm ctv : Value} {params : Arguments} {body : Expr} {scope : Scope} {k i : Nat} {a : Str} {pn : List (Addr × Obj)} {xe : Value → Shared → Prop} {W : WX} {tb : XK → TE} {p1 p2 : Pos}
    (Iv : Inv X pins σ H s) (L : LamS X.env.scope scope) (hf : s.heap.get? f = some (PySem.W.kla_obj "<lambda>" (X.env.qual ++ "<lambda>") params body scope (cloFrom X.env.cells scope.names []) pm c' ctv)) (hfn : H f = none) (hfr : f ∉ frs X.stack)
    (hbind : bindArgs (PySem.W.kla_fn "<lambda>" (X.env.qual ++ "<lambda>") params body scope (cloFrom X.env.cells scope.names []) pm (.ref c') ctv) ⟨[], []⟩ = pure [])
    (tk : Takes ((cxOf CXg X.prog X.w X.K X.mg X.base Ng qg sg g cdg X.A X.stack s H Eg).tr pn xe) W) (hr : Room (k + 1) (X.A.deeper (envOfC qg sg s.heap.objs.size g cdg)))
    (hbody : ∀ (A : Around) (outer : List Env) (s : Shared) (H : Hp) (E : XK), Room k (A.deeper (lamEnv X scope s.heap.objs.size f c')) → PE (lamCx X A outer s H E scope f c') body (tb E))
    (hN : Ng[i]? = some a) (hv : Vis sg a) (hd : (a == ("__debug__" : Str)) = false := by decide) (hcd : (a == ("__classdict__" : Str)) = false := by decide) :
    PE ((cxOf CXg X.prog X.w X.K X.mg X.base Ng qg sg g cdg X.A X.stack s H Eg).tr pn xe) (.Call (.Name a p1) [] [] p2)
      (fun σ0 H0 Q => σ0[i]? = some (some (.ref f)) ∧ H0 c' = some (CodeO c' (X.env.qual ++ "<lambda>")) ∧ tb (WE W σ0) σ H0 Q) := by
  refine ⟨fun pins0 s0 σ0 H0 Q I0 hyp => ?_⟩
  obtain ⟨hsl, hco, hread⟩ := hyp
  refine wpAny_Call_Name_kw (thn ((pe_var (pos := p1) (i := i) hN hv hd hcd).run pins0 s0 σ0 H0 (fun v H1 => v = .ref f ∧ H1 = H0) I0 ⟨.ref f, hsl, rfl, rfl⟩) fun u s1 got => ?_)
  obtain ⟨v, H1, I1, rel1, ev, eH⟩ := got
  subst ev
  rw [eH] at I1
  obtain rfl : u = Value.ref f := rel1
  have at1 : s1.heap.get? f = some (PySem.W.kla_obj "<lambda>" (X.env.qual ++ "<lambda>") params body scope (cloFrom X.env.cells scope.names []) pm c' ctv) :=
    I1.base.keep f _ hf hfn hfr (fun z => by cases z)
  refine PySem.W.callWith_F0 ⟨_, _, _, _, at1⟩ ?_
  have base1 : Un (frs X.stack) [] H H0 s.heap s1.heap := I1.base
  obtain ⟨⟨oc, vs, tt, hoc, hdc, hvc⟩, _, _⟩ := I1.hok c' _ hco
  have runs : codeAny (model X.prog X.w) (X.A.deeper (envOfC qg sg s.heap.objs.size g cdg)) (.call (.ref f) ⟨[], []⟩)
      (CR (L2.CX X.prog X.w) (envOfC qg sg s.heap.objs.size g cdg :: X.stack) X.prog X.w H0 s1 Q (WE W σ0)) s1 := by
    refine PySem.W.kla_callFunE hr.depth at1 rfl L.co L.gen rfl ⟨c', oc, vs, tt, rfl, hoc, hdc, hvc⟩ ?_
    rw [hbind]
    refine wpAny_pure (wpAny_newFunctionEnv (fun y hy => (L.own y hy).2) (fun y hy => by cases hy) (fun h1 hns hsb => ⟨I1.nolimit.fresh _ hsb, ?_⟩) L.kind)
    show codeAny _ _ (.expr body (lamEnv X scope s1.heap.objs.size f c')) _ _
    have keeps1 : ∀ b o, s1.heap.get? b = some o → h1.get? b = some o := fun b o e =>
      hsb.extBut b o (Nat.ne_of_lt (Heap.lt_size e)) (Heap.get?_push_of_some _ e)
    have J := lam_start2 (E := WE W σ0) (c' := c') (f := f) (h₁ := h1) (tk := s1.toks + ([] : List (Str × Value)).length) Iv L I1.env0 hr.hd base1 hns keeps1
    refine PySem.W.kla_codeExpr (wpAny_mono ((hbody _ _ s1 H0 (WE W σ0) (hr.deeper _)).run [] _ _ H0 Q J hread) (fun v2 s2 q2 => ?_) fun _ _ q => q)
    obtain ⟨w2, H2, J2, rel2, q3⟩ := q2
    exact ⟨w2, H2, J2.os, J2.bare, J2.base, J2.hok, rel2, q3⟩
  refine wpAny_call (codeAny_mono runs fun r s2 hq => ?_)
  cases r with
  | error e => exact passAt tk σ0 pins0 H0 s1 e s2 I1 hq
  | ok fl =>
    cases fl with
    | ret u => exact I1.after hq
    | next => exact False.elim hq
    | brk => exact False.elim hq
    | cont => exact False.elim hq
end
/-- the def that asks what it got: a asks; TT: what it makes of the lambda's reading -/
def AsksOf (X : Cx) (Ng : List Str) (x : Str) (sg : Scope) (g : Addr) (cdg : Value) (bg : List Stmt) (a : Str) (q : Str) (TT : (XK → Hp → VK → Prop) → Hp → VK → Prop) : Prop :=
  ∀ (f c' : Addr) (s : Shared) (H : Hp) (Q : VK) (tl : XK → Hp → VK → Prop),
    (∀ (W : WX) (pn : List (Addr × Obj)) (xe : Value → Shared → Prop) (p1 p2 : Pos), Takes ((cxOf C8.CX0 X.prog X.w X.K X.mg X.base Ng x sg g cdg X.A X.stack s H C8.E0).tr pn xe) W →
      PE ((cxOf C8.CX0 X.prog X.w X.K X.mg X.base Ng x sg g cdg X.A X.stack s H C8.E0).tr pn xe) (.Call (.Name a p1) [] [] p2) (fun σ0 H0 Q => σ0[0]? = some (some (.ref f)) ∧ H0 c' = some (CodeO c' q) ∧ tl (WE W σ0) H0 Q)) →
    H c' = some (CodeO c' q) → TT tl H Q →
    ∃ t, PSs (cxOf C8.CX0 X.prog X.w X.K X.mg X.base Ng x sg g cdg X.A X.stack s H C8.E0).nox bg t ∧ t { nx := fun _ H' => Q .non H', rt := Q } (L2.start Ng [.ref f]) H
section
variable {X : Cx}
/-- x(lambda: body), by slots -/
theorem pe_lamS {T : List (Addr × Str)} {TT : (XK → Hp → VK → Prop) → Hp → VK → Prop} {x a : Str} {g c P : Addr} {k : Nat} {pg : Arguments} {bg : List Stmt} {sg : Scope} {dV kV doc pm cdv ct oc : Value} {an od : Option Addr} {osl : Array (Option Value)} {Ng : List Str}
    {params : Arguments} {body : Expr} {scope : Scope} {t : XK → TE} {p lpos pos : Pos} (hg : Gl X x) (hm : X.mg x = some (.ref g)) (hk : PySem.W.keepIn X.K (.ref g) = true)
    (lk : X.K.lookup g = some ⟨oc, od, .func (PySem.W.fnOf x x pg bg sg dV kV doc pm an cdv ct), osl⟩) (hcg : PySem.W.codeIn X.K cdv x = true) (hb : L2.Binds X.K (PySem.W.fnOf x x pg bg sg dV kV doc pm an cdv ct) [a] []) (Sg : FnScope Ng [a] sg) (hNg : Ng[0]? = some a) (hva : Vis sg a)
    (hG : AsksOf X Ng x sg g cdv bg a (X.env.qual ++ "<lambda>") TT)
    (TB : TabB X.base X.mg c P) (hcode : X.env.code = .ref c) (hmT : (P, X.env.qual ++ "<lambda>") ∈ T) (hu : ∀ p ∈ T, p.1 = P → p.2 = X.env.qual ++ "<lambda>") (hr : Room (k + 2) X.A) (L : LamS X.env.scope scope) (hdef : defaultsOf params X.env = ([], []))
    (hbind : ∀ (q : Str) (cl : List (Str × Addr)) (pm cv ctv : Value), bindArgs (PySem.W.kla_fn "<lambda>" q params body scope cl pm cv ctv) ⟨[], []⟩ = pure [])
    (hbody : ∀ (A : Around) (outer : List Env) (s : Shared) (H : Hp) (E : XK) (f c' : Addr), Room k (A.deeper (lamEnv X scope s.heap.objs.size f c')) → PE (lamCx X A outer s H E scope f c') body (t E))
    (hdb : (x == ("__debug__" : Str)) = false := by decide) (hd : (a == ("__debug__" : Str)) = false := by decide) (hcd : (a == ("__classdict__" : Str)) = false := by decide) :
    PE X (.Call (.Name x p) [.Lambda params body scope lpos] [] pos) (tLam T TT t) := by
  refine ⟨fun pins s σ H Q Iv hyp => ?_⟩
  obtain ⟨tabs, rest⟩ := hyp
  refine wpAny_Call_Name_kw (ld_glob Iv hg hm (PySem.W.callWith_K (h₀ := X.base) Iv.ok.mod.kin hk ?_ (by rfl) (by rfl)) hdb)
  show wpAny _ _ (spliced ((false, eval (.Lambda params body scope lpos) X.env) :: backTo pos (starEach [] X.env))) _ _ s
  refine Calls.spliced_cons (lam_make2 Iv TB hcode hmT hu tabs hdef (L.has Iv.ok) fun f c' pm2 ctv2 H1 s1 I1 ext1 tabs1 hf hfn hfr hco => ?_)
  refine Calls.spliced_nil ⟨I1.kIn, ?_⟩
  have runs : codeAny (model X.prog X.w) X.A (.call (.ref g) ⟨[.ref f], []⟩) (CR C8.CX0 X.stack X.prog X.w H1 s1 Q C8.E0) s1 := by
    refine run_ofS (N := Ng) (ps := [a]) (us := [.ref f]) (vs := [.ref f]) lk hcg Sg hr I1.env0 (hb s1 [.ref f] I1.kIn rfl) (.cons rfl .nil) rfl fun hr2 => ?_
    obtain ⟨t2, ht2, hq2⟩ := hG f c' s1 H1 Q (fun E H' Q' => t E σ H' Q')
      (fun W pn xe p1 p2 tk => pe_askS (i := 0) I1 L hf hfn hfr (hbind _ _ _ _ _) tk hr2 (fun A outer s H E hr3 => hbody A outer s H E f c' hr3) hNg hva hd hcd) hco (rest H1 ext1 tabs1)
    exact ⟨t2, ht2.nox, hq2⟩
  refine wpAny_call (codeAny_mono runs fun r s2 hq => ?_)
  cases r with
  | error e => exact (show False from hq).elim
  | ok fl =>
    cases fl with
    | ret u => exact I1.after hq
    | next => exact False.elim hq
    | brk => exact False.elim hq
    | cont => exact False.elim hq
end
end LamX
namespace L2
open PySem PySem.Spec PyProof.Rows
/-- n of a caught error of an own class, whichever class -/
def tErrF (K : PySem.W.Frag) (a : Addr) (cls : Value) (d : Option Addr) (n : Str) (te : TE) : TE := fun σ H Q => te σ H fun x H1 => x = .ref a ∧ ∃ (C dd : Addr) (fs : List (Str × V)) (v : V), cls = .ref C ∧ XfC K C ∧ PySem.W.findIn K (.ref C) n = some none ∧ d = some dd ∧ H1 dd = some (.xd fs) ∧ fs.lookup n = some v ∧ Q v H1
theorem pe_errF {X : Cx} {a : Addr} {oe : Obj} {cls : Value} {d : Option Addr} {pn : List (Addr × Obj)} {e : Expr} {te : TE} {pos : Pos} {n : Str} (hz : Zc cls d oe) (hf : ∃ vs, oe.data = .fields vs)
    (he : PE (X.suite a ((a, oe) :: pn)) e te) (hb : attributeBase e n X.env (eval e X.env) = eval e X.env := by rfl) : PE (X.suite a ((a, oe) :: pn)) (.Attribute e n pos) (tErrF X.K a cls d n te) := by
  refine ⟨fun pins s σ H Q Iv hyp => attr_of hb (thn (he.run pins s σ H _ Iv hyp) fun u s1 got => ?_)⟩
  obtain ⟨x, H1, I1, rx, ex, C, dd, fs, v, ec, T, hno, ed, ea, l, q⟩ := got
  subst ex ec ed
  obtain rfl : u = Value.ref a := rx
  obtain ⟨mem, _⟩ := I1.pin (a, oe) (List.mem_append_left _ List.mem_cons_self)
  obtain ⟨vs, hdat⟩ := hf
  have hxd : ObjOk X.prog X.w H1 s1.heap dd (.xd fs) := I1.hok dd _ ea
  obtain ⟨mA, hns, rel⟩ := hxd
  obtain ⟨od, hod, hl⟩ := lookIn_ns hns
  obtain ⟨u2, hu2, ru2⟩ := RelO.some_of (v := v) (o := mA n) (by rw [← l]; exact rel n)
  have inst : PySem.W.InstAt s1.heap a oe C (some od) := by
    refine ⟨mem, hz.1, ?_, ?_⟩
    · unfold PySem.W.notCls
      rw [hdat]
    · rw [hz.2]
      exact hod
  exact HandSPX.exc_get I1.kIn inst T.ga T.gg T.exC (PySem.W.findObj_own T.hdC hno rfl (by rw [hl, hu2])) (handed_of ru2) ⟨v, H1, I1.tok _, ru2, q⟩
end L2
/-! Refusals that stand on LookupError: made with an own __init__ that is walked as a def. -/
namespace L2
open PySem PySem.Spec PyProof.Rows PySem.Builtin PySem.Builtin.ObjectAttr
abbrev leMro : List Value := [.type "LookupError", .type "Exception", .type "BaseException", .type "object"]
/-- what the written part says of such a class -/
structure OexM (K : PySem.W.Frag) (C : Addr) : Prop where
  cls : ∃ nm q N bs bm sn sub ab col dd k0 k1 k2 k3 k5, K.lookup C = some (excClassObj nm q C N bs bm true sn sub ab col dd k0 k1 k2 k3 k5 "LookupError.__new__") ∧ ∀ Y : String, bm.contains (.type Y) = leMro.contains (.type Y)
  ov : PySem.W.excOver K C leMro = true
  dc : PySem.W.hasDictIn K C = true
  sa : PySem.W.findIn K (.ref C) "__setattr__" = some (some (.builtin "object.__setattr__"))
  exC : PySem.W.subIn K (.ref C) (.type "BaseException") = some true
  tyC : PySem.W.typeIn K (.ref C) = some (.type "type")
  kC : PySem.W.keepIn K (.ref C) = true
section
variable {prog : Program} {w : World} {A : Around} {R : Result → Shared → Prop} {hp : Heap} {g : Array GenState} {d : Drawn} {t : Nat} {os : OsState}
/-- the first field of such an exception lays its dict -/
theorem lay_first {K : PySem.W.Frag} {name : Str} {tk : Tok} {v : Value} {x C : Addr} {fv : Array Value} (X : K.In hp) (hx : hp.get? x = some { cls := .ref C, data := .fields fv }) (T : OexM K C) (ha : PySem.W.findIn K (.ref C) name = some none)
    (hq : ∀ h' tk' dx, (∀ b o, b ≠ x → hp.get? b = some o → h'.get? b = some o) → hp.objs.size ≤ dx → dx ≠ x → h'.get? x = some { cls := .ref C, dict := some dx, data := .fields fv } →
      h'.Ns1 dx (fun y => if y = name then some v else none) → R (.ok (.ret .none)) ⟨h', g, d, tk', os⟩) :
    codeAny (model prog w) A (.call (.builtin "object.__setattr__") ⟨[.ref x, .str name tk, v], []⟩) R ⟨hp, g, d, t, os⟩ := by
  have I : PySem.W.InstAt hp x { cls := .ref C, data := .fields fv } C none := ⟨hx, rfl, rfl, trivial⟩
  have free : PySem.W.takerIn K C name = some none := by
    unfold PySem.W.takerIn
    rw [ha]
    rfl
  obtain ⟨cd, hc, hd'⟩ := PySem.W.any_some T.dc
  have apart : x ≠ hp.objs.size := Nat.ne_of_lt (Heap.lt_size hx)
  have cl : PySem.W.Looks (model prog w) hp (classData C) cd := PySem.W.looks_clsIn X hc
  refine PySem.W.osa_openX PySem.F.store_LookupError X I T.ov free fun b => ?_
  obtain ⟨nm, bs, mro, ns, qn, hd, sn, sb, ab, col, del⟩ := cd
  dsimp only at hd'
  subst hd'
  dsimp only
  unfold storeInOwnDict ownDictForStores
  repeat (first | with_reducible refine PySem.HandSPX.store_in_new ?_ ?_ | with_reducible refine wpAny_loadPart_at hx ?_ | with_reducible refine cl.at ?_ | wp_step)
  · exact ⟨_, #[], _, (Heap.get?_update_ne _ _ _ _ apart.symm).trans (Heap.get?_push_at rfl rfl), rfl, fun e he => absurd he (by simp), fun _ => rfl⟩
  · intro h' tk' hn' hs
    refine hq h' tk' hp.objs.size (fun b o hb ho => ?_) (Nat.le_refl _) apart.symm ?_ hn'
    · exact (hs.2 b (Nat.ne_of_lt (Heap.lt_size ho))).trans ((Heap.get?_update_ne _ _ _ _ hb).trans (Heap.get?_push_of_some _ ho))
    · exact (hs.2 x apart).trans (Heap.get?_update_self _ (Heap.get?_push_of_some _ hx) rfl)
end
section
variable {X : Cx} {pins : List (Addr × Obj)} {σ : St} {H : Hp} {s : Shared} {a C dx : Addr} {f : Str} {y : V} {u : Value} {E : Value → Shared → Prop} {A : Around}
/-- self.f = y, the first one -/
theorem first_store {Q : Unit → Shared → Prop} (T : OexM X.K C) (I : Inv X pins σ H s) (e : H a = some (exo a C none)) (hno : PySem.W.findIn X.K (.ref C) f = some none) (ry : RelV y u)
    (h : ∀ dx s', H dx = none → dx ≠ a → Inv X pins σ (upd (upd H dx (exd dx [(f, y)])) a (exo a C (some dx))) s' → Q () s') : wpAny (model X.prog X.w) A (setAttr (.ref a) f u) Q E s := by
  obtain ⟨t1, ho⟩ := exo_at I.hok e
  obtain ⟨hp, g, d, t, os⟩ := s
  refine PySem.W.set_plain I.kIn (ox := { cls := .ref C, dict := none, data := .fields #[.ref t1, .none, .none, .none, .bool false, .none] }) (od := none) ⟨ho, rfl, rfl, trivial⟩ T.sa ?_
  refine lay_first I.kIn ho T hno fun h' tk' dx k dn dne hx hn => ?_
  have hnd : H dx = none := I.hok.fresh dn
  have old : ∀ {b : Addr} {o : Obj}, hp.get? b = some o → b ≠ dx := fun {b o} q => Nat.ne_of_lt (Nat.lt_of_lt_of_le (Heap.lt_size q) dn)
  have off : ∀ {b : Addr}, H b = none → b ≠ a := fun {b} n z => by
    rw [z, e] at n
    cases n
  have same : ∀ {b : Addr} {o : HO}, H b = some o → o ≠ exo a C none → (upd (upd H dx (exd dx [(f, y)])) a (exo a C (some dx))) b = H b := fun {b o} q ne => by
    rw [upd_ne (fun z => by
      rw [z, e] at q
      exact ne (Option.some.inj q).symm), upd_ne (ne_of_none q hnd)]
  have U : Un X.fs [] H (upd (upd H dx (exd dx [(f, y)])) a (exo a C (some dx))) hp h' := {
    keep := fun b o q n _ _ => k b o (off n) q
    slot := fun b o q n _ _ => ⟨o.slots, k b o (off n) q⟩
    free := fun b o q n _ => by
      rw [upd_ne (off n), upd_ne (old q)]
      exact n
    there := fun b o q _ => by
      by_cases hb : b = a
      · exact ⟨_, by rw [hb]; exact hx⟩
      · exact ⟨o, k b o hb q⟩
    tups := fun b xs q => (same q (fun z => exo_tup z.symm)).trans q
    frzs := fun b o v q => (same q (fun z => exo_frz z.symm)).trans q
    tbls := fun b ps q => ⟨#[], by rw [same q (fun z => exo_tbl z.symm), q]; simp⟩ }
  refine h dx _ hnd dne (I.un (t' := tk') U fun b o q => ?_)
  by_cases hb : b = a
  · subst hb
    rw [upd_same] at q
    cases q
    exact exo_ok hx
  · rw [upd_ne hb] at q
    by_cases hd : b = dx
    · subst hd
      rw [upd_same] at q
      cases q
      exact exd_ok hn (relO_put (fs := []) ry fun g => True.intro)
    · rw [upd_ne hd] at q
      refine (I.hok b o q).stay (fun c v hc z => k c v ?_ z) (fun c hc => (same hc (fun z => exo_own z.symm)).trans hc) (fun c xs hc => (same hc (fun z => exo_tup z.symm)).trans hc)
      rcases hc with hc | hc
      · rw [hc]
        exact hb
      · exact at_ne e hc exo_own
/-- LookupError.__init__(self, ..): nothing of it is told -/
theorem base_init {us : List Value} {Q : Value → Shared → Prop} (T : OexM X.K C) (I : Inv X pins σ H s) (e : H a = some (exo a C none)) (hl : us.length ≤ sizeLine) (h : ∀ s', Inv X pins σ H s' → Q .none s') :
    wpAny (model X.prog X.w) A (call (.builtin "LookupError.__init__") (.ref a :: us)) Q E s := by
  obtain ⟨nm, q, N, bs, bm, sn, sub, ab, col, dd, k0, k1, k2, k3, k5, hC, hbm⟩ := T.cls
  obtain ⟨t1, ho⟩ := exo_at I.hok e
  obtain ⟨hp, g, d, t, os⟩ := s
  refine wpAny_call (PySem.HandSPX.init_base F.excBase_LookupError hbm (I.kIn _ _ hC) ho hl fun h' t2 k hx => ?_)
  have J := I.write (t' := t) (x := a) (e := a) (o := exo a C none) (by rw [e]; exact True.intro) (.inl rfl) k ⟨_, hx⟩ (exo_ok hx)
  have back : upd H a (exo a C none) = H := funext fun b => by
    by_cases hb : b = a
    · rw [hb, upd_same, e]
    · rw [upd_ne hb]
  rw [back] at J
  exact h _ J
end
theorem typ_LE : typeOf (.type "LookupError") = pure (.type "type") := by kernel_rfl
/-- LookupError.__init__(self, ..) -/
def tLeI (K : PySem.W.Frag) (ta : TA) : TE := fun σ H Q => ta σ H fun vs H1 => ∃ (a C : Addr) (ws : List V), vs = .ref a :: ws ∧ ws.length ≤ 1000 ∧ OexM K C ∧ H1 a = some (exo a C none) ∧ Q .non H1
/-- self.f = e, the first one -/
def tFst (K : PySem.W.Frag) (f : Str) (to te : TE) : TS := fun D σ H => te σ H fun y H1 => to σ H1 fun x H2 => ∃ a C : Addr, x = .ref a ∧ OexM K C ∧ PySem.W.findIn K (.ref C) f = some none ∧
  H2 a = some (exo a C none) ∧ ∀ dx, H2 dx = none → dx ≠ a → D.nx σ (upd (upd H2 dx (exd dx [(f, y)])) a (exo a C (some dx)))
section
variable {X : Cx} {o e : Expr} {es : List Expr} {to te : TE} {ta : TA} {f : Str} {p p' p1 p2 pos : Pos}
theorem pe_leinit {pl : Sem Bool} (hg : Gl X "LookupError") (hm : X.mg "LookupError" = none) (vV : PySem.W.findCls X.K (.type "LookupError") (.type "type") "__init__" = some (.val (.builtin "LookupError.__init__"))) (ha : PA X (e :: es) ta)
    (hc : eval (.Call (.Attribute (.Name "LookupError" p1) "__init__" p2) (e :: es) [] pos) X.env = (do
      let ov ← eval (.Name "LookupError" p1) X.env
      standAt p2.atName
      let (f, first) ← holding [ov] (getMethod ov "__init__" pl)
      callWith pos f first (backTo pos (starEach (e :: es) X.env)) (backToKw pos (keywordEach [] X.env))) := by rfl)
    (he : starEach (e :: es) X.env = (false, eval e X.env) :: starEach es X.env := by rfl) (hpl : (backTo pos (starEach es X.env)).any (·.1) = false := by rfl) :
    PE X (.Call (.Attribute (.Name "LookupError" p1) "__init__" p2) (e :: es) [] pos) (tLeI X.K ta) := by
  refine ⟨fun pins s σ H Q I h => ?_⟩
  refine PySem.W.methodCall_KW (ld_blt I hg hm PyProof.Rows.Boot.«LookupError» ?_ (by decide) (by decide)) hc
  obtain ⟨m, fr⟩ := I.fr
  refine PySem.W.method_type fr I.ok.mod.kin typ_LE (by decide +kernel) vV (by decide +kernel) ?_
  show wpAny _ _ (callWith pos (Value.builtin "LookupError.__init__") [] (backTo pos (starEach (e :: es) X.env)) []) _ _ _
  refine PyProof.Rows.callWith_method1 (thn (ha.run pos pins _ σ H _ (I.tok _) h) fun us s1 ⟨vs, H1, I1, r1, a, C, ws, ev, hl, T, ea, q⟩ => ?_) he hpl
  subst ev
  cases r1 with
  | @cons _ u0 _ ur ra rw' =>
    obtain rfl : u0 = Value.ref a := ra
    refine base_init T I1 ea ?_ fun s' J => ⟨.non, H1, J, rfl, q⟩
    rw [← Paired.length rw', sizeLine_eq]
    omega
theorem ps_first (ho : PE X o to) (he : PE X e te) (hs : swapsWith e (some (.Attribute o f p')) pos.line X.env = pure false := by rfl) : PS X (.Assign [.Attribute o f p'] e pos) (tFst X.K f to te) := by
  refine ⟨fun pins s σ H D I h => ?_⟩
  refine plainObj_wpAny_Assign_Attribute (thn (he.run pins s σ H _ I h) fun v s1 ⟨y, H1, I1, r1, q1⟩ => thn (ho.run pins s1 σ H1 _ I1 q1) fun u s2 ⟨x, H2, I2, r2, a, C, ex, T, hno, ea, q⟩ => ?_) hs
  subst ex
  obtain rfl : u = Value.ref a := r2
  exact first_store T I2 ea hno r1 fun dx s' n ne J => ⟨σ, _, J, q dx n ne⟩
/-- C(e, ..), C's own __init__ keeping sp -/
theorem pmk_oexM {CX : CXT} {x : Str} {C fI : Addr} {k : Nat} {fd : FuncData} {ps : List Str} {sp : Sp} {ds : List Value} {dvs : List V} (T : OexM X.K C) (iC : PySem.W.findIn X.K (.ref C) "__init__" = some (some (.ref fI))) (tI : PySem.W.typeIn X.K (.ref fI) = some (.type "function"))
    (F1 : FnOk X.prog X.w X.K X.mg X.base CX k fI fd ps sp) (hr : Room (k + 1) X.A) (hb : Binds X.K fd ps ds) (hd : Vals dvs ds) (hx : Passes CX X (fun _ _ _ => False)) (hg : Gl X x) (hm : X.mg x = some (.ref C)) (ha : PA X (e :: es) ta)
    (hdb : (x == ("__debug__" : Str)) = false := by decide) (he : starEach (e :: es) X.env = (false, eval e X.env) :: starEach es X.env := by rfl) (hpl : (backTo pos (starEach es X.env)).any (·.1) = false := by rfl) :
    PMk X (.Call (.Name x p) (e :: es) [] pos) (tMkO C sp dvs ta) := by
  intro pins s σ H Q I h
  obtain ⟨nm, q, N, bs, bm, sn, sub, ab, col, dd, k0, k1, k2, k3, k5, hC, hbm⟩ := T.cls
  refine wpAny_Call_Name_kw (ld_glob I hg hm ?_ hdb)
  refine PySem.W.callWith_K (h₀ := X.base) I.ok.mod.kin T.kC (thn (ha.run pos pins s σ H _ I h) fun us s1 ⟨vs, H1, I1, r1, hz, q1⟩ => ⟨I1.kIn, ?_⟩) he hpl
  show wpAny _ _ (call (.ref C) us) _ _ _
  obtain ⟨hp, g, dr, tk, os⟩ := s1
  generalize hb' : hp.objs.size + 1 = b
  have up : hp.objs.size ≤ b := by omega
  have hq := q1 b (I1.hok.fresh up)
  have grow : ∀ c o, hp.get? c = some o → ((hp.push (PySem.W.kdv_tup us)).push (PySem.HandSPX.excO C hp.objs.size)).get? c = some o := fun c o z => Heap.get?_push_of_some _ (Heap.get?_push_of_some _ z)
  have there : ((hp.push (PySem.W.kdv_tup us)).push (PySem.HandSPX.excO C hp.objs.size)).get? b = some (PySem.HandSPX.excO C hp.objs.size) := by
    rw [← hb']
    heap_get
  have I2 : Inv X pins σ (upd H1 b (exo b C none)) ⟨(hp.push (PySem.W.kdv_tup us)).push (PySem.HandSPX.excO C hp.objs.size), g, dr, tk, os⟩ :=
    I1.laid (t' := tk) (a := b) (o := exo b C none) (h' := (hp.push (PySem.W.kdv_tup us)).push (PySem.HandSPX.excO C hp.objs.size)) grow up (exo_ok there)
  have r2 : Vals (V.ref b :: (vs ++ dvs)) (Value.ref b :: (us ++ ds)) := .cons rfl (r1.append hd)
  have len : (Value.ref b :: us ++ ds).length = ps.length := by
    have z := r2.length
    rw [F1.len _ _ _ _ hq] at z
    exact z.symm
  have few : us.length ≤ sizeLine := by
    rw [← Paired.length r1, sizeLine_eq]
    omega
  have run := F1.run _ X.stack _ _ ⟨Value.ref b :: us, []⟩ (Value.ref b :: (us ++ ds)) _ _ (fun _ _ _ => False) (hr.make C us []) (I2.env0.make C us []) (hb _ (Value.ref b :: us) I2.kIn len) r2 hq
  rw [← hb'] at run
  refine wpAny_call (PySem.HandSPX.call_own F.excBase_LookupError hbm (I1.kIn _ _ hC) (PySem.W.looks_findIn I1.kIn iC) (fun self => PySem.W.bind_fn I1.kIn self tI) few (codeAny_mono run fun r s' hq' => ?_))
  cases r with
  | error er => exact hx pins σ _ _ er s' I2 (by rw [← hb']; exact hq')
  | ok fl =>
    cases fl with
    | ret u =>
      obtain ⟨v, H2, os2, bare2, un2, hok2, rv, ev, d, fs, ea, ed, hd1, q2⟩ := hq'
      subst ev
      obtain ⟨h2, g2, d2, t2, os'⟩ := s'
      rw [hb'] at un2 ea q2 ⊢
      exact ⟨rv, mk_end (raises_own T.exC T.tyC) I1 up grow un2 hok2 os2 bare2 ea ed hd1 q2⟩
    | next => exact False.elim hq'
    | brk => exact False.elim hq'
    | cont => exact False.elim hq'
end
end L2
/-! t[1::-1], a tuple of two items or more: the second, then the first. -/
namespace RevT
open PySem PySem.Spec PyProof.Rows HT L2
section
variable {prog : Program} {w : World} {A : Around} {E : Value → Shared → Prop} {s : Shared}
theorem adjust_down {n : Nat} (hn : 2 ≤ n) : Builtin.Slice.sliceAdjust (some 1) none (-1) (n : Int) = (1, -1) := by
  unfold Builtin.Slice.sliceAdjust
  have h1 : ((-1 : Int) < 0) := by omega
  have h2 : ¬ ((1 : Int) < 0) := by omega
  simp only [h1, h2, if_false, if_true]
  first
    | rfl
    | (congr 1; omega)
theorem places_down : Builtin.Slice.slicePlaces 1 (-1) (-1) = 2 := by
  unfold Builtin.Slice.slicePlaces
  decide
theorem applied_down {sl : Addr} {n : Nat} {u v : Tok} {Q : Int × Int × Nat → Shared → Prop} (hs : s.heap.IsSliceOf sl (.int 1 u) .none (.int (-1) v)) (hn : 2 ≤ n) (h : Q (1, -1, 2) s) :
    wpAny (model prog w) A (Builtin.Slice.sliceApplied (.ref sl) (pure (n : Int))) Q E s := by
  obtain ⟨os, hos, hcs, hds⟩ := id hs
  unfold Builtin.Slice.sliceApplied Builtin.Slice.sliceFields
  refine wpAny_bind (wpAny_bind (wpAny_field hos hds (x := .int 1 u) rfl (wpAny_bind (wpAny_field hos hds (x := .none) rfl (wpAny_bind (wpAny_field hos hds (x := .int (-1) v) rfl (wpAny_pure ?_)))))))
  refine wpAny_bind (slicePart_int ?_)
  show wpAny _ _ (if ((-1 : Int) == 0) = true then _ else _) _ _ s
  rw [if_neg (by decide)]
  refine wpAny_bind (slicePart_int (wpAny_bind (slicePart_none (wpAny_bind (wpAny_pure ?_)))))
  show wpAny _ _ (match Builtin.Slice.sliceAdjust (some 1) none (-1) (n : Int) with | (lo, hi) => pure (lo, (-1 : Int), Builtin.Slice.slicePlaces lo hi (-1))) _ _ s
  rw [adjust_down hn]
  show wpAny _ _ (pure ((1 : Int), (-1 : Int), Builtin.Slice.slicePlaces 1 (-1) (-1))) _ _ s
  rw [places_down]
  exact wpAny_pure h
theorem pick_down (xs : Array Value) {a b : Value} (ha : xs[0]? = some a) (hb : xs[1]? = some b) : ((List.range 2).filterMap fun (k : Nat) => xs[((1 : Int) + (k : Int) * (-1)).toNat]?).toArray = #[b, a] := by
  have e : List.range 2 = [0, 1] := by decide
  rw [e]
  show ([0, 1].filterMap fun (k : Nat) => xs[((1 : Int) + (k : Int) * (-1)).toNat]?).toArray = #[b, a]
  rw [List.filterMap_cons, List.filterMap_cons, List.filterMap_nil]
  rw [show ((1 : Int) + ((0 : Nat) : Int) * (-1)).toNat = 1 from by decide, show ((1 : Int) + ((1 : Nat) : Int) * (-1)).toNat = 0 from by decide, hb, ha]
theorem getItem_down {t sl : Addr} {items : Array Value} {a b : Value} {u v : Tok} {Q : Value → Shared → Prop} (ht : IsTup s.heap t items) (hs : s.heap.IsSliceOf sl (.int 1 u) .none (.int (-1) v)) (ha : items[0]? = some a) (hb : items[1]? = some b)
    (h : Q (.ref s.heap.objs.size) { s with heap := s.heap.push { cls := .type "tuple", data := .seq #[b, a] } }) : wpAny (model prog w) A (getItem (.ref t) (.ref sl)) Q E s := by
  obtain ⟨os, hos, hcs, hds⟩ := id hs
  have hTs : s.TypeIs (.ref sl) "slice" := ⟨os, hos, hcs⟩
  have hn : 2 ≤ items.size := by
    have := (Array.getElem?_eq_some_iff.mp hb).1
    omega
  unfold getItem
  try with_reducible refine wpAny_holding ?_
  first | refine wpAny_bind (wpAny_pure ?_) | skip
  refine wpAny_bind (wpAny_sequenceKey ht.typeIs (by decide) ?_)
  refine wpAny_bind (wpAny_callSpecial?_slot (name := Str.ofString "__getitem__") ht.typeIs PyProof.Rows.slot_tuple_getitem
    (wpAny_call_entry PyProof.Rows.slot_tuple_getitem ht.typeIs entry_tuple_getitem ?_ (args_tuple_getitem _ _)))
  show wpAny _ _ (Builtin.Tuple.tupleItemsOf (.ref t) >>= _) _ _ s
  refine wpAny_bind (tupleItemsOf_ ht ?_)
  refine wpAny_bind (wpAny_typeOf hTs ?_)
  rw [if_pos (by decide)]
  refine wpAny_bind (applied_down hs hn ?_)
  show wpAny _ _ (if ((1 : Int) == 0 && (-1 : Int) == 1 && (2 : Nat) == items.size) = true then _ else _) _ _ s
  rw [if_neg (by simp), pick_down items ha hb]
  have small : sizeOk (.seq #[b, a]) := by
    show 2 ≤ sizeLine
    decide
  first
    | exact wpAny_bind (m := Builtin.Tuple.tupleExact _) (wpAny_newObj_type (wpAny_pure ⟨_, rfl, wpAny_pure h⟩) small)
    | exact wpAny_bind (m := Builtin.Tuple.tupleExact _) (wpAny_newObj_type (wpAny_bind (wpAny_pure (wpAny_pure ⟨_, rfl, wpAny_pure h⟩))) small)
    | exact wpAny_bind (wpAny_bind (m := Builtin.Tuple.tupleExact _) (wpAny_newObj_type (wpAny_pure (wpAny_pure ⟨_, rfl, wpAny_pure h⟩)) small))
    | exact wpAny_bind (wpAny_bind (m := Builtin.Tuple.tupleExact _) (wpAny_newObj_type (wpAny_pure ⟨_, rfl, wpAny_pure h⟩) small))
end
/-- t[1::-1] -/
def tDown (K : PySem.W.Frag) (te : TE) : TE := fun σ H Q => te σ H fun x H1 => ∃ (a : Addr) (y z : V) (r : List V), x = .ref a ∧ SqT K H1 a (y :: z :: r) ∧ ∀ p, H1 p = none → Q (.ref p) (upd H1 p (.tup [z, y]))
theorem pe_down {X : Cx} {e : Expr} {te : TE} {k k2 : Nat} {p0 p1 p2 p3 pos : Pos} (he : PE X e te) : PE X (.Subscript e (.Slice (some (.Constant (.int 1) k2 p0)) none (some (.UnaryOp .USub (.Constant (.int 1) k p1) p2)) p3) pos) (tDown X.K te) := by
  refine ⟨fun pins s σ H Q I h => ?_⟩
  refine Subscript_ (thn (he.run pins s σ H _ I h) fun v s1 ⟨x, H1, I1, r1, q1⟩ => ?_)
  obtain ⟨a, y, z, r, ex, hx, q⟩ := q1
  subst ex
  cases r1
  have lower : PO X (some (.Constant (.int 1) k2 p0)) (tPart (tC (.int 1))) := po_some pe_int
  have down : PO X (some (.UnaryOp .USub (.Constant (.int 1) k p1) p2)) (tPart (tUn (rU fun i => .int (-i)) (tC (.int 1)))) := po_some (pe_un un_neg pe_int)
  refine wpAny_Slice (thn (lower.run pins s1 σ H1 (fun o H2 => o = some 1 ∧ H2 = H1) I1 ⟨1, rfl, rfl, rfl⟩) fun vl s2 ⟨l, H2, I2, pl, el, e2⟩ => ?_)
  subst el e2
  refine thn (po_none.run pins s2 σ H2 (fun o H3 => o = none ∧ H3 = H2) I2 ⟨rfl, rfl⟩) fun vu s3 ⟨u, H3, I3, pu, eu, e3⟩ => ?_
  subst eu e3
  refine thn (down.run pins s3 σ H3 (fun o H4 => o = some (-1) ∧ H4 = H3) I3 ⟨1, rfl, -1, rfl, rfl, rfl⟩) fun vs s4 ⟨o, H4, I4, ps, eo, e4⟩ => ?_
  subst eo e4
  have I5 : Inv X pins σ H4 { s4 with heap := s4.heap.push { cls := .type "slice", data := .fields #[vl, vu, vs] } } := I4.kept (t' := s4.toks) fun b ob q => Heap.get?_push_of_some _ q
  obtain ⟨its, rv, ht, hz⟩ := I5.tuple hx
  cases rv with
  | @cons _ y' _ rest ry rr =>
    cases rr with
    | @cons _ z' _ rest rz rr =>
      cases pl
      cases pu
      cases ps
      refine tail_any (ops := [.ref a, .ref s4.heap.objs.size]) (show IsTup _ a _ from ht).typeIs (PyProof.Rows.slot_tuple_getitem.lookup) ?_ (by with_unfolding_all rfl)
      refine getItem_down ht (Heap.IsSliceOf.new _ _ _ _) (a := y') (b := z') (by simp) (by simp) ?_
      refine ⟨.ref _, _, I5.laid (t' := s4.toks) (o := .tup [z, y]) (fun b ob q => Heap.get?_push_of_some _ q) (Nat.le_refl _) ?_, rfl, q _ (I5.hok.fresh (Nat.le_refl _))⟩
      exact ⟨by show 2 ≤ sizeLine; decide, _, .cons rz (.cons ry .nil), ⟨_, Heap.get?_push_size _ rfl, rfl, _, rfl⟩⟩
end RevT
/-! sorted of a list of ints, however long -/
namespace L2
open PySem PySem.Spec PyProof.Rows
namespace SrA
variable {X : Cx}
def rSortedA (K : PySem.W.Frag) : List V → Hp → VK → Prop := fun vs H Q => ∃ (a : Addr) (ns : List Int), vs = [V.ref a] ∧ SqL K H a (ns.map V.int) ∧ ns.length ≤ sizeLine ∧
  ∀ (ns' : List Int) (p : Addr), ns'.Perm ns → ns'.Pairwise (· ≤ ·) → H p = none → Q (.ref p) (upd H p (.lst (ns'.map V.int)))
theorem cr_sortedA : CallR X (.builtin "sorted") (rSortedA X.K) := by
  intro pins s σ H vs us Q I r h
  obtain ⟨a, ns, rfl, hs, h64, q⟩ := h
  obtain ⟨its, rv, hl, _⟩ := I.list hs
  rw [Vals.ref1 r]
  have hi := rv.ints
  refine PyProof.Rows.sorted_intsAny hl.isList hi (by rw [hi.length]; exact h64) fun out ns' h1 h2 h3 => ?_
  obtain ⟨ep, he'⟩ := PyProof.Rows.sortedAll_at s.heap its out
  have hlen : (ns'.map V.int).length ≤ sizeLine := by rw [List.length_map, h2.length_eq]; exact h64
  exact ⟨.ref _, upd H (s.heap.objs.size + 1) (.lst (ns'.map V.int)), I.laid (t' := s.toks) (fun _ _ => PyProof.Rows.sortedAll_old) (Nat.le_succ _) ⟨hlen, out.toList, ep, vals_of_ints h1, he'⟩, rfl, q ns' _ h2 h3 (I.hok.fresh (Nat.le_succ _))⟩
end SrA
end L2
/-! Rows that are longer than the width: what is left over stands beside. -/
namespace Lin
open Lean.Grind St
section
variable {F : Type} [Field F] [DecidableEq F]
theorem steps_nil : ∀ ps : List Nat, steps ps ([] : List (List F)) = []
  | [] => rfl
  | p :: ps => by
    show steps (p :: ps) ([] : List (List F)) = []
    unfold steps
    exact steps_nil ps
theorem steps_app : ∀ (n m p : Nat) (left : List (List F)), ∃ left' : List (List F), steps (List.range' p (n + m)) left = steps (List.range' p n) left ++ steps (List.range' (p + n) m) left' ∧ left'.length + (steps (List.range' p n) left).length = left.length
  | 0, m, p, left => ⟨left, by rw [Nat.zero_add]; rfl, rfl⟩
  | n + 1, m, p, left => by
    have e0 : n + 1 + m = (n + m) + 1 := by omega
    cases h : fst left p with
    | none =>
      obtain ⟨l', h1, h2⟩ := steps_app n m (p + 1) left
      refine ⟨l', ?_, ?_⟩
      · rw [e0, steps_none h, steps_none h, h1, show p + 1 + n = p + (n + 1) by omega]
      · rw [steps_none h]
        exact h2
    | some i =>
      obtain ⟨r, hr, hne⟩ := fst_some h
      obtain ⟨l', h1, h2⟩ := steps_app n m (p + 1) ((cut left i).map fun x => swp x (scl r p) p)
      have lc := cut_len hr
      refine ⟨l', ?_, ?_⟩
      · rw [e0, steps_some h hr, steps_some h hr, h1, show p + 1 + n = p + (n + 1) by omega]
        rfl
      · rw [steps_some h hr, List.length_cons]
        rw [List.length_map] at h2
        omega
theorem ech_pre {A B : List (Ll F)} (E : Ech (vecs (A ++ B))) : Ech (vecs A) := by
  have h := E.up
  have e : vecs (A ++ B) = vecs A ++ vecs B := List.map_append ..
  rw [e] at h
  refine ⟨(List.pairwise_append.mp h).1, fun a ha => E.one a ?_, fun a ha => E.ahead a ?_⟩ <;> exact (by rw [e]; exact List.mem_append_left _ ha)
theorem lead_in : ∀ (n p : Nat) (left : List (List F)), ∀ a ∈ steps (List.range' p n) left, p ≤ a.1 ∧ a.1 < p + n
  | 0, p, left, a, ha => by cases ha
  | n + 1, p, left, a, ha => by
    cases h : fst left p with
    | none =>
      rw [steps_none h] at ha
      have := lead_in n (p + 1) left a ha
      omega
    | some i =>
      obtain ⟨r, hr, _⟩ := fst_some h
      rw [steps_some h hr] at ha
      rcases List.mem_cons.mp ha with rfl | ha
      · exact ⟨Nat.le_refl _, by show p < _; omega⟩
      · have := lead_in n (p + 1) _ a ha
        omega
/-- steps at the first places alone -/
theorem steps_okW {w W : Nat} {rows : List (List F)} (hW : w ≤ W) (hl : ∀ r ∈ rows, r.length = W) :
    Ech (vecs (steps (List.range' 0 w) rows)) ∧ (∀ a ∈ steps (List.range' 0 w) rows, 0 ≤ a.1 ∧ a.1 < w ∧ a.2.length = W) ∧ (∀ a ∈ steps (List.range' 0 w) rows, Sp (sps rows) (vec a.2)) ∧ (steps (List.range' 0 w) rows).length ≤ rows.length := by
  obtain ⟨h1, h2, _, h4, _⟩ := steps_ok W 0 rows (Nat.zero_add W) (left_start hl)
  obtain ⟨l', e1, e2⟩ := steps_app w (W - w) 0 rows
  rw [show w + (W - w) = W by omega] at e1
  rw [e1] at h1 h2 h4
  refine ⟨ech_pre h1, fun a ha => ⟨Nat.zero_le _, ?_, (h2 a (List.mem_append_left _ ha)).2.2⟩, fun a ha => h4 a (List.mem_append_left _ ha), by omega⟩
  have := (lead_in w 0 rows a ha).2
  omega
/-- all rows used up: as if all places were gone through -/
theorem steps_used {w W : Nat} {rows : List (List F)} (hW : w ≤ W) (h : (steps (List.range' 0 w) rows).length = rows.length) : steps (List.range' 0 W) rows = steps (List.range' 0 w) rows := by
  obtain ⟨l', e1, e2⟩ := steps_app w (W - w) 0 rows
  rw [show w + (W - w) = W by omega] at e1
  have z : l' = [] := List.eq_nil_of_length_eq_zero (by omega)
  rw [e1, z, steps_nil, List.append_nil]
theorem vec_take {l : List F} {w p : Nat} (h : p < w) : vec (l.take w) p = vec l p := by
  unfold vec
  rw [List.getD_eq_getElem?_getD, List.getD_eq_getElem?_getD, List.getElem?_take_of_lt h]
theorem scl_take {l : List F} {w p : Nat} (h : p < w) : scl (l.take w) p = (scl l p).take w := by
  unfold scl
  rw [vec_take h, List.map_take]
theorem swp_take {l m : List F} {w p : Nat} (h : p < w) : swp (l.take w) (m.take w) p = (swp l m p).take w := by
  unfold swp
  rw [vec_take h]
  split
  · rfl
  · rw [List.take_zipWith]
theorem fst_take {rows : List (List F)} {w p : Nat} (h : p < w) : fst (rows.map fun l => l.take w) p = fst rows p := by
  unfold fst
  rw [List.findIdx?_map]
  congr 1
  funext r
  show decide (vec (r.take w) p ≠ 0) = _
  rw [vec_take h]
theorem cut_take {rows : List (List F)} {w i : Nat} : cut (rows.map fun l => l.take w) i = (cut rows i).map fun l => l.take w := by
  unfold cut
  rw [← List.map_take, ← List.map_drop, List.map_append]
/-- the steps see the first places alone -/
theorem steps_take {w : Nat} : ∀ (n p : Nat) (rows : List (List F)), p + n ≤ w → steps (List.range' p n) (rows.map fun l => l.take w) = (steps (List.range' p n) rows).map fun a => (a.1, a.2.take w)
  | 0, p, rows, _ => rfl
  | n + 1, p, rows, hw => by
    cases h : fst rows p with
    | none =>
      have h' : fst (rows.map fun l => l.take w) p = none := by rw [fst_take (by omega), h]
      rw [steps_none h, steps_none h']
      exact steps_take n (p + 1) rows (by omega)
    | some i =>
      obtain ⟨r, hr, _⟩ := fst_some h
      have h' : fst (rows.map fun l => l.take w) p = some i := by rw [fst_take (by omega), h]
      have hr' : (rows.map fun l => l.take w)[i]? = some (r.take w) := by rw [List.getElem?_map, hr]; rfl
      rw [steps_some h hr, steps_some h' hr', List.map_cons, scl_take (by omega), cut_take]
      have e : ((cut rows i).map fun l => l.take w).map (fun x => swp x ((scl r p).take w) p) = ((cut rows i).map fun x => swp x (scl r p) p).map fun l => l.take w := by
        rw [List.map_map, List.map_map]
        exact List.map_congr_left fun x _ => swp_take (by omega)
      rw [e, steps_take n (p + 1) _ (by omega)]
/-- the program's reduced rows at the first places -/
def redW (w : Nat) (rows : List (List F)) : List (Ll F) := back (steps (List.range' 0 w) rows)
theorem back_len : ∀ A : List (Ll F), (back A).length = A.length
  | [] => rfl
  | a :: A => by
    show ((a.1, clean a.2 (back A)) :: back A).length = (a :: A).length
    rw [List.length_cons, List.length_cons, back_len A]
theorem redW_len {w W : Nat} {rows : List (List F)} : (redW w rows).length = (redL w (rows.map fun l => l.take w)).length := by
  unfold redW redL
  rw [back_len, back_len, steps_take w 0 rows (by omega), List.length_map]
theorem redW_used {w W : Nat} {rows : List (List F)} (hW : w ≤ W) (h : (redW w rows).length = rows.length) : redW w rows = redL W rows := by
  unfold redW at h ⊢
  unfold redL
  rw [back_len] at h
  rw [steps_used hW h]
end
section
variable {f : Int} {D : Fd f}
theorem steps_endW {w c : Nat} : letI := D.fld; letI := D.dec; ∀ (n p : Nat) (left : List (List D.F)) (zs : List (Nat → Int)) (ps : List Nat) (b s : Nat), p + n ≤ w → Left w p left → Bits zs b → OrgL D zs ps (left.map vec) s → D.ofI (dt zs ps) ≠ 0 → ps.length = zs.length → fact (zs.length + left.length) < 2 ^ c →
    ∃ (zs' : List (Nat → Int)) (ps' : List Nat) (b' : Nat), Bits zs' b' ∧ b' ≤ b + s ∧ D.ofI (dt zs' ps') ≠ 0 ∧ ps'.length = zs'.length ∧ fact zs'.length < 2 ^ c ∧ ps' = ((steps (List.range' p n) left).map (·.1)).reverse ++ ps ∧ (∀ z ∈ zs, z ∈ zs') ∧ ∀ a ∈ steps (List.range' p n) left, Sp (zs'.map (im D)) (vec a.2) := by
  letI := D.fld
  letI := D.dec
  intro n
  induction n with
  | zero =>
    intro p left zs ps b s hw L hz ho hn hl hf
    exact ⟨zs, ps, b, hz, by omega, hn, hl, Nat.lt_of_le_of_lt (fact_le (by omega)) hf, rfl, fun z h => h, (fun a h => by cases h)⟩
  | succ n ih =>
    intro p left zs ps b s hw L hz ho hn hl hf
    cases h : fst left p with
    | none =>
      rw [steps_none h]
      exact ih (p + 1) left zs ps b s (by omega) (left_none L h) hz ho hn hl hf
    | some i =>
      obtain ⟨r, hr, hne⟩ := fst_some h
      rw [steps_some h hr]
      show ∃ (zs' : List (Nat → Int)) (ps' : List Nat) (b' : Nat), Bits zs' b' ∧ b' ≤ b + s ∧ D.ofI (dt zs' ps') ≠ 0 ∧ ps'.length = zs'.length ∧ fact zs'.length < 2 ^ c ∧ ps' = (((p, scl r p) :: steps (List.range' (p + 1) n) ((cut left i).map fun x => swp x (scl r p) p)).map (·.1)).reverse ++ ps ∧ (∀ z ∈ zs, z ∈ zs') ∧
        ∀ a ∈ (p, scl r p) :: steps (List.range' (p + 1) n) ((cut left i).map fun x => swp x (scl r p) p), Sp (zs'.map (im D)) (vec a.2)
      obtain ⟨a, b', ⟨o, d, h1, h2, h3, h4, h5⟩, hrr, hs⟩ := ho.pick (x := vec r) (i := i) (by rw [List.getElem?_map, hr]; rfl)
      have up : ∀ {v : Vec D.F}, Sp (zs.map (im D)) v → Sp ((o :: zs).map (im D)) v := fun h => h.mono fun y hy => List.mem_cons_of_mem _ hy
      have hx : Sp ((o :: zs).map (im D)) (vec r) := by
        have g := up h2
        have g0 : Sp ((o :: zs).map (im D)) (im D o) := .gen (List.mem_cons_self ..)
        exact ((g0.lin (-1) g).mul (D.ofI d)⁻¹).cast fun j => by
          generalize D.ofI d = A at *
          grind
      have e1 : D.ofI (dt (o :: zs) (p :: ps)) = D.ofI d * vec r p * D.ofI (dt zs ps) := by
        rw [← dt_im (D := D) (o :: zs) (p :: ps), ← dt_im (D := D) zs ps]
        exact swept_told h2 h3 p
      have hn' : D.ofI (dt (o :: zs) (p :: ps)) ≠ 0 := by
        rw [e1]
        generalize D.ofI (dt zs ps) = A at *
        generalize D.ofI d = B at *
        grind
      have ho' : OrgL D (o :: zs) (p :: ps) (((cut left i).map fun x => swp x (scl r p) p).map vec) b' := by
        rw [left_vec L hr]
        refine OrgL.map (fun y _ a' hy => ?_) hrr
        obtain ⟨o', d', g1, g2, g3, g4, g5⟩ := hy
        refine ⟨o', d', g1, ?_, fun q hq => ?_, g4, g5⟩
        · exact ((up g2).lin (D.ofI d' * y p * (vec r p)⁻¹) hx).cast fun j => by
            generalize D.ofI d' = A at *
            generalize im D o' j = B at *
            grind
        · rcases List.mem_cons.mp hq with rfl | hq
          · show y q + (-(y q)) * ((vec r q)⁻¹ * vec r q) = 0
            grind
          · have e2 := g3 q hq
            have e3 := h3 q hq
            show y q + (-(y p)) * ((vec r p)⁻¹ * vec r q) = 0
            rw [e2, e3]
            grind
      have lc := cut_len hr
      obtain ⟨zs', ps', b2, k1, k2, k3, k4, k5, k6, k7, k8⟩ := ih (p + 1) _ (o :: zs) (p :: ps) (a + b) b' (by omega) (left_step L hr hne) ⟨a, b, h4, hz, Nat.le_refl _⟩ ho' hn' (by show ps.length + 1 = zs.length + 1; omega) (by
        rw [List.length_map]
        have e : (o :: zs).length + (cut left i).length = zs.length + left.length := by
          show zs.length + 1 + _ = _
          omega
        rw [e]
        exact hf)
      refine ⟨zs', ps', b2, k1, by omega, k3, k4, k5, ?_, fun z hz => k7 z (List.mem_cons_of_mem _ hz), fun x hx2 => ?_⟩
      · rw [k6, List.map_cons, List.reverse_cons, List.append_assoc]
        rfl
      · rcases List.mem_cons.mp hx2 with rfl | hx2
        · have hx := hx.mono (ss := zs'.map (im D)) fun y hy => by
            obtain ⟨z, hz, rfl⟩ := List.mem_map.mp hy
            exact List.mem_map_of_mem (k7 z hz)
          exact (hx.mul (vec r p)⁻¹).cast fun j => (scl_vec j).symm
        · exact k8 x hx2
theorem steps_htW {m w : Nat} : letI := D.fld; letI := D.dec; ∀ (n p : Nat) (left : List (List D.F)), p + n ≤ w → Left w p left → Lv D m (left.map vec) → ∀ a ∈ steps (List.range' p n) left, Ht D m (vec a.2) := by
  letI := D.fld
  letI := D.dec
  intro n
  induction n with
  | zero => intro p left _ _ _ a ha; cases ha
  | succ n ih =>
    intro p left hw L h a ha
    cases hh : fst left p with
    | none =>
      rw [steps_none hh] at ha
      exact ih (p + 1) left (by omega) (left_none L hh) h a ha
    | some i =>
      obtain ⟨r, hr, hne⟩ := fst_some hh
      rw [steps_some hh hr] at ha
      rcases List.mem_cons.mp ha with rfl | ha
      · exact scl_ht (h.ht (List.mem_map_of_mem (List.mem_of_getElem? hr))) hne
      · exact ih (p + 1) _ (by omega) (left_step L hr hne) (lv_next L h hr hne) a ha
/-- any last part of the steps, made ready -/
theorem back_htcW {w W m s c : Nat} (hW : w ≤ W) {rows : List (List D.F)} : letI := D.fld; letI := D.dec; (∀ r ∈ rows, r.length = W) → OrgL D [] [] (rows.map vec) s → fact rows.length < 2 ^ c → s + c ≤ m →
    ∀ A B : List (Ll D.F), steps (List.range' 0 w) rows = A ++ B → HtC D m (rowsOf (vecs (back B))) := by
  letI := D.fld
  letI := D.dec
  intro hl ho hf hm A B e
  obtain ⟨zs, ps, b, k1, k2, k3, k4, k5, k6, _, k8⟩ := steps_endW (w := W) (c := c) w 0 rows [] [] 0 s (by omega) (left_start hl) (Nat.le_refl _) ho (by show D.ofI 1 ≠ 0; rw [D.ofI_one]; exact one_ne) rfl (by show fact (0 + rows.length) < _; rw [Nat.zero_add]; exact hf)
  obtain ⟨E, hw, _, _⟩ := steps_okW hW hl
  rw [e] at k6 k8 E hw
  rw [List.append_nil] at k6
  have EB : Ech (vecs B) := by
    have h := E.up
    rw [show vecs (A ++ B) = vecs A ++ vecs B from List.map_append ..] at h
    refine ⟨(List.pairwise_append.mp h).2.1, fun a ha => E.one a ?_, fun a ha => E.ahead a ?_⟩ <;> exact (by rw [show vecs (A ++ B) = vecs A ++ vecs B from List.map_append ..]; exact List.mem_append_right _ ha)
  obtain ⟨R, hm2, hlen, g1, g2⟩ := back_ok EB fun a ha => (hw a (List.mem_append_right _ ha)).2.2
  have nd : ps.Nodup := by
    rw [k6]
    refine List.pairwise_reverse.mpr ?_
    have h := E.up
    rw [List.pairwise_map] at h ⊢
    exact h.imp fun h => by
      have h : _ < _ := h
      omega
  refine HtC.ready (b := b) (c := c) k1 k4 nd k3 (fun r hr => ?_) k5 (by omega)
  obtain ⟨y, hy, rfl⟩ := List.mem_map.mp hr
  obtain ⟨x, hx, rfl⟩ := List.mem_map.mp hy
  have hx1 : x.1 ∈ B.map (·.1) := by
    rw [← hm2]
    exact List.mem_map_of_mem hx
  refine ⟨(g1 x hx).trans fun v hv => ?_, x.1, ?_, R.one (x.1, vec x.2) hy, fun q hq ne => ?_⟩
  · obtain ⟨u, hu, rfl⟩ := List.mem_map.mp hv
    obtain ⟨t, ht, rfl⟩ := List.mem_map.mp hu
    exact k8 t (List.mem_append_right _ ht)
  · rw [k6, List.mem_reverse, List.map_append]
    exact List.mem_append_right _ hx1
  · rw [k6, List.mem_reverse, List.map_append] at hq
    rcases List.mem_append.mp hq with hq | hq
    · obtain ⟨a, ha, rfl⟩ := List.mem_map.mp hq
      obtain ⟨t, ht, e2⟩ := List.mem_map.mp hx1
      have h := E.up
      rw [List.pairwise_map] at h
      have lt : a.1 < t.1 := (List.pairwise_append.mp h).2.2 a ha t ht
      exact R.ahead (x.1, vec x.2) hy a.1 (by show a.1 < x.1; omega)
    · rw [← hm2] at hq
      obtain ⟨t, ht, rfl⟩ := List.mem_map.mp hq
      exact R.alone (x.1, vec x.2) hy (t.1, vec t.2) (List.mem_map_of_mem ht) fun z => ne z.symm
end
end Lin
/-! Tables that turn back, and goings along them. -/
namespace Lin
open Lean.Grind St
section
variable {F : Type} [Field F] [DecidableEq F]
theorem go_plus {u v : Nat → F} : ∀ k, sumV (fun j => u j + v j) k = sumV u k + sumV v k
  | 0 => by show (0 : F) = 0 + 0; grind
  | k + 1 => by
    show sumV (fun j => u j + v j) k + (u k + v k) = sumV u k + u k + (sumV v k + v k)
    rw [go_plus k]
    grind
theorem go_nil {u : Nat → F} : ∀ k, (∀ j, j < k → u j = 0) → sumV u k = 0
  | 0, _ => rfl
  | k + 1, h => by
    show sumV u k + u k = 0
    rw [go_nil k fun j hj => h j (by omega), h k (by omega)]
    grind
theorem go_mul {u : Nat → F} {a : F} : ∀ k, sumV (fun j => a * u j) k = a * sumV u k
  | 0 => by show (0 : F) = a * 0; grind
  | k + 1 => by
    show sumV (fun j => a * u j) k + a * u k = a * (sumV u k + u k)
    rw [go_mul k]
    grind
theorem go_swap {a : Nat → Nat → F} {n : Nat} : ∀ m, sumV (fun i => sumV (fun j => a i j) n) m = sumV (fun j => sumV (fun i => a i j) m) n
  | 0 => (go_nil n fun _ _ => rfl).symm
  | m + 1 => by
    show sumV (fun i => sumV (fun j => a i j) n) m + sumV (fun j => a m j) n = sumV (fun j => sumV (fun i => a i j) m + a m j) n
    rw [go_swap m, go_plus n]
def unV (p : Nat) : Nat → F := fun j => if j = p then 1 else 0
theorem go_pick {c : Nat → F} {p n : Nat} (h : p < n) : sumV (fun j => unV p j * c j) n = c p := by
  rw [sumV_pick h (g := fun j => unV p j * c j) fun i _ ne => by
    show (if i = p then (1 : F) else 0) * c i = 0
    rw [if_neg ne]
    grind]
  show (if p = p then (1 : F) else 0) * c p = c p
  rw [if_pos rfl]
  grind
/-- what the table leads the column to -/
def actL (T : List (List F)) (c : List F) : List F := T.map fun l => dotN l c l.length
structure Tbl (n m : Nat) (T : List (List F)) : Prop where
  len : T.length = n
  wid : ∀ l ∈ T, l.length = m
theorem go_getD {α : Type} {l : List α} {p : Nat} {d : α} (h : p < l.length) : l[p]? = some (l.getD p d) := by
  rw [List.getD_eq_getElem?_getD, List.getElem?_eq_getElem h]
  rfl
theorem actL_len {T : List (List F)} {c : List F} : (actL T c).length = T.length := List.length_map ..
theorem vec_map_getD {T : List (List F)} {g : List F → F} {i : Nat} (h : i < T.length) : vec (T.map g) i = g (T.getD i []) := by
  unfold vec
  rw [List.getD_eq_getElem?_getD, List.getElem?_map, go_getD (d := []) h]
  rfl
theorem Tbl.row {n m : Nat} {T : List (List F)} (h : Tbl n m T) {i : Nat} (hi : i < n) : (T.getD i []).length = m := h.wid _ (List.mem_of_getElem? (go_getD (by rw [h.len]; exact hi)))
theorem act_vec {n m : Nat} {T : List (List F)} (h : Tbl n m T) {c : List F} {i : Nat} (hi : i < n) : vec (actL T c) i = sumV (fun j => vec (T.getD i []) j * vec c j) m := by
  unfold actL
  rw [vec_map_getD (by rw [h.len]; exact hi), h.row hi, dotN_sum]
theorem ext_vec {l m : List F} (h : l.length = m.length) (e : ∀ j, j < l.length → vec l j = vec m j) : l = m := by
  refine List.ext_getElem? fun i => ?_
  by_cases c : i < l.length
  · rw [vec_lt c, vec_lt (by omega), e i c]
  · rw [List.getElem?_eq_none (by omega), List.getElem?_eq_none (by omega)]
/-- the one table behind the other does nothing -/
structure InvT (n : Nat) (M N : List (List F)) : Prop where
  is : ∀ i k, i < n → k < n → sumV (fun j => vec (M.getD i []) j * vec (N.getD j []) k) n = unV i k
theorem act_inv {n : Nat} {M N : List (List F)} (hM : Tbl n n M) (hN : Tbl n n N) (h : InvT n M N) {c : List F} (hc : c.length = n) : actL M (actL N c) = c := by
  refine ext_vec (by rw [actL_len, hM.len, hc]) fun i hi => ?_
  rw [actL_len, hM.len] at hi
  rw [act_vec hM hi]
  have e1 : sumV (fun j => vec (M.getD i []) j * vec (actL N c) j) n = sumV (fun j => sumV (fun k => vec (M.getD i []) j * vec (N.getD j []) k * vec c k) n) n := sumV_congr fun j hj => by
    rw [act_vec hN hj, ← go_mul]
    exact sumV_congr fun k _ => by grind
  rw [e1, go_swap]
  have e2 : sumV (fun k => sumV (fun j => vec (M.getD i []) j * vec (N.getD j []) k * vec c k) n) n = sumV (fun k => unV i k * vec c k) n := sumV_congr fun k hk => by
    rw [← h.is i k hi hk, sumV_mulr]
  rw [e2, go_pick hi]
/-- rows that make all units, put beside the units -/
def unL (n p : Nat) : List F := (List.range n).map fun j => unV p j
theorem unL_len {n p : Nat} : (unL n p : List F).length = n := by unfold unL; rw [List.length_map, List.length_range]
theorem unL_vec {n p j : Nat} (h : j < n) : vec (unL n p : List F) j = unV p j := by
  unfold vec unL
  rw [List.getD_eq_getElem?_getD, List.getElem?_map, List.getElem?_range h]
  rfl
def besL (n : Nat) (T : List (List F)) : List (List F) := (List.range n).map fun i => T.getD i [] ++ unL n i
def invL (n : Nat) (T : List (List F)) : List (List F) := (redW n (besL n T)).map fun a => a.2.drop n
theorem besL_len {n : Nat} {T : List (List F)} : (besL n T).length = n := by unfold besL; rw [List.length_map, List.length_range]
theorem besL_get {n i : Nat} {T : List (List F)} (h : i < n) : (besL n T)[i]? = some (T.getD i [] ++ unL n i) := by
  unfold besL
  rw [List.getElem?_map, List.getElem?_range h]
  rfl
section
variable {n : Nat} {T : List (List F)} (hT : Tbl n n T)
include hT
theorem besL_wid : ∀ l ∈ besL n T, l.length = n + n := fun l hl => by
  obtain ⟨i, hi, rfl⟩ := List.mem_map.mp hl
  rw [List.length_append, unL_len, hT.row (List.mem_range.mp hi)]
theorem besL_take : (besL n T).map (fun l => l.take n) = T := by
  refine List.ext_getElem? fun i => ?_
  by_cases c : i < n
  · rw [List.getElem?_map, besL_get c, go_getD (l := T) (d := []) (by rw [hT.len]; exact c)]
    show some ((T.getD i [] ++ unL n i).take n) = _
    rw [List.take_left' (hT.row c)]
  · rw [List.getElem?_eq_none (by rw [List.length_map, besL_len]; omega), List.getElem?_eq_none (by rw [hT.len]; omega)]
theorem bes_low {i j : Nat} (hi : i < n) (hj : j < n) : vec (T.getD i [] ++ unL n i) j = vec (T.getD i []) j := by
  rw [vec_app, if_pos (by rw [hT.row hi]; exact hj)]
theorem bes_high {i j : Nat} (hi : i < n) (hj : j < n) : vec (T.getD i [] ++ unL n i) (n + j) = unV i j := by
  rw [vec_app, hT.row hi, if_neg (by omega), show n + j - n = j by omega, unL_vec hj]
end
theorem up_all : ∀ {l : List Nat} {n : Nat} (p : Nat), l.Pairwise (· < ·) → (∀ x, x ∈ l ↔ p ≤ x ∧ x < p + n) → l = List.range' p n
  | [], n, p, _, h => by
    have : n = 0 := by
      rcases Nat.eq_zero_or_pos n with h0 | h0
      · exact h0
      · exact absurd ((h p).mpr ⟨Nat.le_refl _, by omega⟩) (by simp)
    subst this
    rfl
  | a :: l, n, p, hp, h => by
    obtain ⟨h1, h2⟩ := List.pairwise_cons.mp hp
    have ha := (h a).mp (List.mem_cons_self ..)
    obtain ⟨m, rfl⟩ : ∃ m, n = m + 1 := ⟨n - 1, by omega⟩
    have ep : a = p := by
      rcases List.mem_cons.mp ((h p).mpr ⟨Nat.le_refl _, by omega⟩) with e | e
      · exact e.symm
      · have := h1 p e
        omega
    subst ep
    rw [List.range'_succ]
    congr 1
    refine up_all (a + 1) h2 fun x => ⟨fun hx => ?_, fun hx => ?_⟩
    · have := h1 x hx
      have := (h x).mp (List.mem_cons_of_mem _ hx)
      omega
    · rcases List.mem_cons.mp ((h x).mpr (by omega)) with e | e
      · omega
      · exact e
theorem sp_expand {rs : List (Vec F)} {v : Vec F} {n : Nat} {co : Nat → Nat} {B : Nat → Vec F} {j : Nat} (g : ∀ r ∈ rs, r j = sumV (fun i => r (co i) * B i j) n) (h : Sp rs v) : v j = sumV (fun i => v (co i) * B i j) n := by
  induction h with
  | zero => exact (go_nil n fun i _ => by grind).symm
  | step c hr _ ih =>
    rename_i v r _
    have e : sumV (fun i => (v (co i) + c * r (co i)) * B i j) n = sumV (fun i => v (co i) * B i j) n + c * sumV (fun i => r (co i) * B i j) n := by
      rw [← go_mul, ← go_plus]
      exact sumV_congr fun i _ => by grind
    show v j + c * r j = _
    rw [e, ← ih, ← g r hr]
section
variable {n : Nat} {T : List (List F)} (hT : Tbl n n T) (hg : ∀ i, i < n → Sp (T.map vec) (unV i))
include hT hg
theorem red_leads : (redW n (besL n T)).map (·.1) = List.range n := by
  have e1 : (redL n T).map (·.1) = (redW n (besL n T)).map (·.1) := by
    obtain ⟨h1, h2, _, _⟩ := steps_okW (w := n) (W := n + n) (by omega) (besL_wid hT)
    obtain ⟨_, hm, _⟩ := back_ok h1 fun a ha => (h2 a ha).2.2
    rw [(redL_ok hT.wid).2]
    unfold redW
    rw [hm]
    have e := steps_take (w := n) n 0 (besL n T) (by omega)
    rw [besL_take hT] at e
    rw [e, List.map_map]
    rfl
  rw [← e1]
  have ok := redL_ok hT.wid
  have R := ok.1.red
  have hs := (steps_okW (w := n) (W := n) (Nat.le_refl _) hT.wid).2.1
  rw [List.range_eq_range']
  refine up_all 0 ?_ fun x => ⟨fun hx => ?_, fun hx => ?_⟩
  · have := R.up
    rw [show vecs (redL n T) = (redL n T).map fun a => (a.1, vec a.2) from rfl] at this
    rw [List.pairwise_map] at this ⊢
    exact this
  · rw [ok.2] at hx
    obtain ⟨a, ha, rfl⟩ := List.mem_map.mp hx
    have := hs a ha
    omega
  · have hsp : Sp (rowsOf (vecs (redL n T))) (unV x) := (hg x (by omega)).trans fun r hr => by
      obtain ⟨l, hl, rfl⟩ := List.mem_map.mp hr
      exact ok.1.into l hl
    obtain ⟨a, ha, e⟩ := R.lead (l := x) hsp (fun j hj => if_neg (by omega)) (by
      show (if x = x then (1 : F) else 0) ≠ 0
      rw [if_pos rfl]
      exact one_ne)
    obtain ⟨b, hb, rfl⟩ := List.mem_map.mp ha
    exact List.mem_map.mpr ⟨b, hb, e⟩
theorem red_len : (redW n (besL n T)).length = n := by
  have := congrArg List.length (red_leads hT hg)
  rw [List.length_map, List.length_range] at this
  exact this
theorem red_is : redW n (besL n T) = redL (n + n) (besL n T) := redW_used (by omega) (by rw [red_len hT hg, besL_len])
theorem red_get {p : Nat} (h : p < n) : ∃ row : List F, (redW n (besL n T))[p]? = some (p, row) ∧ row.length = n + n ∧ vec ((invL n T).getD p []) = fun k => vec row (n + k) := by
  have e : ((redW n (besL n T)).map (·.1))[p]? = some p := by rw [red_leads hT hg, List.getElem?_range h]
  rw [List.getElem?_map] at e
  cases ha : (redW n (besL n T))[p]? with
  | none => rw [ha] at e; cases e
  | some a =>
    rw [ha] at e
    have e : a.1 = p := Option.some.inj e
    obtain ⟨q, row⟩ := a
    cases e
    refine ⟨row, rfl, (redL_ok (besL_wid hT)).1.len _ (by rw [← red_is hT hg]; exact List.mem_of_getElem? ha), funext fun k => ?_⟩
    unfold invL
    rw [List.getD_eq_getElem?_getD, List.getElem?_map, ha]
    show vec (row.drop n) k = _
    unfold vec
    rw [List.getD_eq_getElem?_getD, List.getElem?_drop, List.getD_eq_getElem?_getD]
theorem inv_tbl : Tbl n n (invL n T) := by
  refine ⟨by unfold invL; rw [List.length_map, red_len hT hg], fun l hl => ?_⟩
  obtain ⟨a, ha, rfl⟩ := List.mem_map.mp hl
  rw [red_is hT hg] at ha
  rw [List.length_drop, (redL_ok (besL_wid hT)).1.len a ha]
  omega
theorem red_low {p j : Nat} {row : List F} (h : (redW n (besL n T))[p]? = some (p, row)) (hp : p < n) (hj : j < n) : vec row j = unV p j := by
  have R := (redL_ok (besL_wid hT)).1.red
  rw [← red_is hT hg] at R
  have hm : (p, vec row) ∈ vecs (redW n (besL n T)) := List.mem_map_of_mem (f := fun a : Ll F => (a.1, vec a.2)) (List.mem_of_getElem? h)
  unfold unV
  by_cases c : j = p
  · rw [if_pos c, c]
    exact R.one _ hm
  · rw [if_neg c]
    obtain ⟨row2, h2, _⟩ := red_get hT hg hj
    have hm2 : (j, vec row2) ∈ vecs (redW n (besL n T)) := List.mem_map_of_mem (f := fun a : Ll F => (a.1, vec a.2)) (List.mem_of_getElem? h2)
    exact R.alone _ hm _ hm2 (fun e => c e.symm)
theorem inv_left : InvT n (invL n T) T := ⟨fun p k hp hk => by
  obtain ⟨row, h1, h2, h3⟩ := red_get hT hg hp
  rw [h3]
  have hs : Sp (sps (besL n T)) (vec row) := (redL_ok (besL_wid hT)).1.of _ (by rw [← red_is hT hg]; exact List.mem_of_getElem? h1)
  have := sp_expand (n := n) (co := fun i => n + i) (B := fun i => vec (T.getD i [])) (j := k) (fun r hr => by
    obtain ⟨l, hl, rfl⟩ := List.mem_map.mp hr
    obtain ⟨i, hi, rfl⟩ := List.mem_map.mp hl
    have hi := List.mem_range.mp hi
    rw [bes_low hT hi hk, ← go_pick (c := fun i => vec (T.getD i []) k) hi]
    exact sumV_congr fun j hj => by rw [bes_high hT hi hj]) hs
  rw [red_low hT hg h1 hp hk] at this
  exact this.symm⟩
theorem inv_right : InvT n T (invL n T) := ⟨fun i k hi hk => by
  have hs : Sp (rowsOf (vecs (redW n (besL n T)))) (vec (T.getD i [] ++ unL n i)) := by
    rw [red_is hT hg]
    exact (redL_ok (besL_wid hT)).1.into _ (List.mem_of_getElem? (besL_get hi))
  have := sp_expand (n := n) (co := fun i => i) (B := fun p => fun j => vec ((invL n T).getD p []) (j - n)) (j := n + k) (fun r hr => by
    obtain ⟨a, ha, rfl⟩ := List.mem_map.mp hr
    obtain ⟨b, hb, rfl⟩ := List.mem_map.mp ha
    obtain ⟨q, hq⟩ := List.getElem?_of_mem hb
    have hqn : q < n := by
      have := (List.getElem?_eq_some_iff.mp hq).1
      rw [red_len hT hg] at this
      exact this
    obtain ⟨row, h1, h2, h3⟩ := red_get hT hg hqn
    cases hq.symm.trans h1
    have e1 : sumV (fun j => vec row j * vec ((invL n T).getD j []) (n + k - n)) n = sumV (fun j => unV q j * vec ((invL n T).getD j []) (n + k - n)) n := sumV_congr fun j hj => by rw [red_low hT hg h1 hqn hj]
    show vec row (n + k) = sumV (fun j => vec row j * vec ((invL n T).getD j []) (n + k - n)) n
    rw [e1, go_pick hqn, h3, show n + k - n = k by omega]) hs
  rw [bes_high hT hi hk] at this
  rw [this]
  exact sumV_congr fun j hj => by rw [bes_low hT hi hj, show n + k - n = k by omega]⟩
end
/-! ### columns, and one table behind the other -/
def colT (p : Nat) (L : List (List F)) : List F := L.map fun l => vec l p
def joinL (A B : List (List F)) (w : Nat) : List (List F) := A.map fun row => actL ((List.range w).map fun p => colT p B) row
def tblOf (n w : Nat) (g : Nat → List F) : List (List F) := (List.range n).map fun i => (List.range w).map fun p => vec (g p) i
theorem colT_len {p : Nat} {L : List (List F)} : (colT p L).length = L.length := List.length_map ..
theorem colT_vec {p i : Nat} {L : List (List F)} (h : i < L.length) : vec (colT p L) i = vec (L.getD i []) p := vec_map_getD h
theorem dotN_comm (l c : List F) : ∀ k, dotN l c k = dotN c l k
  | 0 => rfl
  | k + 1 => by
    show dotN l c k + vec l k * vec c k = dotN c l k + vec c k * vec l k
    rw [dotN_comm l c k]
    grind
theorem tbl_cols {w : Nat} {B : List (List F)} {n : Nat} (hB : B.length = n) : Tbl w n ((List.range w).map fun p => colT p B) := by
  refine ⟨by rw [List.length_map, List.length_range], fun l hl => ?_⟩
  obtain ⟨p, _, rfl⟩ := List.mem_map.mp hl
  rw [colT_len, hB]
theorem join_tbl {n m w : Nat} {A B : List (List F)} (hA : Tbl n m A) : Tbl n w (joinL A B w) := by
  refine ⟨by unfold joinL; rw [List.length_map, hA.len], fun l hl => ?_⟩
  obtain ⟨r, _, rfl⟩ := List.mem_map.mp hl
  rw [actL_len, List.length_map, List.length_range]
theorem join_col {n m w p : Nat} {A B : List (List F)} (hA : Tbl n m A) (hB : B.length = m) (hp : p < w) : colT p (joinL A B w) = actL A (colT p B) := by
  unfold colT joinL
  rw [List.map_map]
  refine List.map_congr_left fun r hr => ?_
  show vec (actL ((List.range w).map fun p => colT p B) r) p = _
  unfold actL
  rw [vec_map_getD (by rw [List.length_map, List.length_range]; exact hp)]
  have e : ((List.range w).map fun p => colT p B).getD p [] = colT p B := by
    rw [List.getD_eq_getElem?_getD, List.getElem?_map, List.getElem?_range hp]
    rfl
  rw [e, colT_len, hB, hA.wid r hr]
  exact dotN_comm _ _ _
theorem tbl_ext {n w : Nat} {A B : List (List F)} (hA : Tbl n w A) (hB : Tbl n w B) (h : ∀ p, p < w → colT p A = colT p B) : A = B := by
  refine List.ext_getElem? fun i => ?_
  by_cases c : i < n
  · rw [go_getD (d := []) (by rw [hA.len]; exact c), go_getD (d := []) (l := B) (by rw [hB.len]; exact c)]
    congr 1
    refine ext_vec (by rw [hA.row c, hB.row c]) fun j hj => ?_
    rw [hA.row c] at hj
    rw [← colT_vec (p := j) (by rw [hA.len]; exact c), ← colT_vec (p := j) (by rw [hB.len]; exact c), h j hj]
  · rw [List.getElem?_eq_none (by rw [hA.len]; omega), List.getElem?_eq_none (by rw [hB.len]; omega)]
theorem tblOf_tbl {n w : Nat} {g : Nat → List F} : Tbl n w (tblOf n w g) := by
  refine ⟨by unfold tblOf; rw [List.length_map, List.length_range], fun l hl => ?_⟩
  obtain ⟨i, _, rfl⟩ := List.mem_map.mp hl
  rw [List.length_map, List.length_range]
theorem tblOf_col {n w p : Nat} {g : Nat → List F} (hp : p < w) (hg : (g p).length = n) : colT p (tblOf n w g) = g p := by
  refine ext_vec (by rw [colT_len, tblOf_tbl.len, hg]) fun i hi => ?_
  rw [colT_len, tblOf_tbl.len] at hi
  rw [colT_vec (by rw [tblOf_tbl.len]; exact hi)]
  unfold tblOf
  rw [List.getD_eq_getElem?_getD, List.getElem?_map, List.getElem?_range hi]
  show vec ((List.range w).map fun p => vec (g p) i) p = _
  unfold vec
  rw [List.getD_eq_getElem?_getD, List.getElem?_map, List.getElem?_range hp]
  rfl
theorem tbl_is {n w : Nat} {A : List (List F)} {g : Nat → List F} (hA : Tbl n w A) (h : ∀ p, p < w → colT p A = g p) : A = tblOf n w g := by
  refine tbl_ext hA tblOf_tbl fun p hp => ?_
  have e := h p hp
  rw [tblOf_col hp (by rw [← e, colT_len, hA.len]), e]
theorem tblOf_congr {n w : Nat} {g g' : Nat → List F} (h : ∀ p, p < w → g p = g' p) : tblOf n w g = tblOf n w g' := by
  unfold tblOf
  refine List.map_congr_left fun i _ => List.map_congr_left fun p hp => ?_
  rw [h p (List.mem_range.mp hp)]
/-- a column is led as the table's columns are -/
theorem act_cols {n m k : Nat} {A G : List (List F)} (hA : Tbl n m A) (hG : Tbl m k G) {c : List F} : actL A (actL G c) = actL (tblOf n k fun p => actL A (colT p G)) c := by
  refine ext_vec (by rw [actL_len, actL_len, hA.len, tblOf_tbl.len]) fun i hi => ?_
  rw [actL_len, hA.len] at hi
  rw [act_vec hA hi, act_vec tblOf_tbl hi]
  have e1 : sumV (fun j => vec (A.getD i []) j * vec (actL G c) j) m = sumV (fun j => sumV (fun p => vec (A.getD i []) j * vec (G.getD j []) p * vec c p) k) m := sumV_congr fun j hj => by
    rw [act_vec hG hj, ← go_mul]
    exact sumV_congr fun p _ => by grind
  rw [e1, go_swap]
  refine sumV_congr fun p hp => ?_
  rw [← colT_vec (p := p) (by rw [tblOf_tbl.len]; exact hi), tblOf_col hp (by rw [actL_len, hA.len]), act_vec hA hi, ← sumV_mulr]
  refine sumV_congr fun j hj => ?_
  rw [colT_vec (by rw [hG.len]; exact hj)]
theorem act_unit {n : Nat} {c : List F} (hc : c.length = n) : actL (tblOf n n fun p => unL n p) c = c := by
  refine ext_vec (by rw [actL_len, tblOf_tbl.len, hc]) fun i hi => ?_
  rw [actL_len, tblOf_tbl.len] at hi
  rw [act_vec tblOf_tbl hi]
  have e : sumV (fun j => vec ((tblOf n n fun p => (unL n p : List F)).getD i []) j * vec c j) n = sumV (fun j => unV i j * vec c j) n := sumV_congr fun j hj => by
    rw [← colT_vec (p := j) (by rw [tblOf_tbl.len]; exact hi), tblOf_col hj unL_len, unL_vec hi]
    congr 1
    show (if i = j then (1 : F) else 0) = if j = i then 1 else 0
    by_cases c : i = j
    · rw [if_pos c, if_pos c.symm]
    · rw [if_neg c, if_neg fun e => c e.symm]
  rw [e, go_pick hi]
/-! ### goings -/
/-- how a step leads: what it does first, and what it does back -/
def stepC (n : Nat) (g : Nat × Bool → List (List F) × List (List F)) (c : List F) (s : Nat × Bool) : List F := actL (invL n (g s).2) (actL (g s).1 c)
def goC (n : Nat) (g : Nat × Bool → List (List F) × List (List F)) (c : List F) (S : List (Nat × Bool)) : List F := S.foldl (stepC n g) c
def backS (S : List (Nat × Bool)) : List (Nat × Bool) := S.reverse.map fun s => (s.1, !s.2)
structure Turns (n : Nat) (T : List (List F)) : Prop where
  tbl : Tbl n n T
  gen : ∀ i, i < n → Sp (T.map vec) (unV i)
section
variable {n : Nat} {g : Nat × Bool → List (List F) × List (List F)}
theorem goC_app (c : List F) (S U : List (Nat × Bool)) : goC n g c (S ++ U) = goC n g (goC n g c S) U := List.foldl_append
theorem goC_cons (c : List F) (s : Nat × Bool) (U : List (Nat × Bool)) : goC n g c (s :: U) = goC n g (stepC n g c s) U := rfl
theorem step_len {c : List F} {s : Nat × Bool} (h : Turns n (g s).2) : (stepC n g c s).length = n := by
  unfold stepC
  rw [actL_len, (inv_tbl h.tbl h.gen).len]
theorem goC_len : ∀ {S : List (Nat × Bool)} {c : List F}, c.length = n → (∀ s ∈ S, Turns n (g s).1 ∧ Turns n (g s).2) → (goC n g c S).length = n
  | [], c, h, _ => h
  | s :: S, c, h, hs => goC_len (S := S) (c := stepC n g c s) (step_len (hs s (List.mem_cons_self ..)).2) fun t ht => hs t (List.mem_cons_of_mem _ ht)
theorem step_back {c : List F} (hc : c.length = n) {s : Nat × Bool} (h1 : Turns n (g s).1) (h2 : Turns n (g s).2) (hb : g (s.1, !s.2) = ((g s).2, (g s).1)) : stepC n g (stepC n g c s) (s.1, !s.2) = c := by
  unfold stepC
  rw [hb]
  show actL (invL n (g s).1) (actL (g s).2 (actL (invL n (g s).2) (actL (g s).1 c))) = c
  rw [act_inv h2.tbl (inv_tbl h2.tbl h2.gen) (inv_right h2.tbl h2.gen) (by rw [actL_len, h1.tbl.len]), act_inv (inv_tbl h1.tbl h1.gen) h1.tbl (inv_left h1.tbl h1.gen) hc]
theorem backS_cons (s : Nat × Bool) (S : List (Nat × Bool)) : backS (s :: S) = backS S ++ [(s.1, !s.2)] := by
  unfold backS
  rw [List.reverse_cons, List.map_append]
  rfl
theorem go_back : ∀ {S : List (Nat × Bool)} {c : List F}, c.length = n → (∀ s ∈ S, Turns n (g s).1 ∧ Turns n (g s).2) → (∀ s, g (s.1, !s.2) = ((g s).2, (g s).1)) → goC n g (goC n g c S) (backS S) = c
  | [], c, _, _, _ => rfl
  | s :: S, c, hc, hs, hb => by
    obtain ⟨h1, h2⟩ := hs s (List.mem_cons_self ..)
    rw [goC_cons, backS_cons, goC_app, go_back (S := S) (step_len h2) (fun t ht => hs t (List.mem_cons_of_mem _ ht)) hb]
    exact step_back hc h1 h2 (hb s)
/-- the table of a going -/
def turnG (n : Nat) (g : Nat × Bool → List (List F) × List (List F)) (S : List (Nat × Bool)) : List (List F) := tblOf n n fun p => goC n g (unL n p) S
theorem go_lin : ∀ (S : List (Nat × Bool)) {G : List (List F)} {c : List F}, Tbl n n G → c.length = n → (∀ s ∈ S, Turns n (g s).1 ∧ Turns n (g s).2) → goC n g (actL G c) S = actL (tblOf n n fun p => goC n g (colT p G) S) c
  | [], G, c, hG, hc, _ => by
    show actL G c = actL (tblOf n n fun p => colT p G) c
    rw [← tbl_is hG fun p _ => rfl]
  | s :: S, G, c, hG, hc, hs => by
    obtain ⟨h1, h2⟩ := hs s (List.mem_cons_self ..)
    rw [goC_cons]
    unfold stepC
    rw [act_cols h1.tbl hG, act_cols (inv_tbl h2.tbl h2.gen) tblOf_tbl, go_lin S tblOf_tbl hc fun t ht => hs t (List.mem_cons_of_mem _ ht)]
    congr 1
    refine tblOf_congr fun p hp => ?_
    rw [tblOf_col hp (by rw [actL_len, (inv_tbl h2.tbl h2.gen).len]), tblOf_col hp (by rw [actL_len, h1.tbl.len])]
    rfl
theorem turn_is {S : List (Nat × Bool)} {c : List F} (hc : c.length = n) (hs : ∀ s ∈ S, Turns n (g s).1 ∧ Turns n (g s).2) : actL (turnG n g S) c = goC n g c S := by
  have h := go_lin (g := g) S (G := tblOf n n fun p => unL n p) (c := c) tblOf_tbl hc hs
  rw [act_unit hc] at h
  rw [h]
  congr 1
  exact tblOf_congr fun p hp => by rw [tblOf_col hp unL_len]
theorem turn_tbl {S : List (Nat × Bool)} : Tbl n n (turnG n g S) := tblOf_tbl
theorem turn_col {S : List (Nat × Bool)} {p : Nat} (hp : p < n) (hs : ∀ s ∈ S, Turns n (g s).1 ∧ Turns n (g s).2) : colT p (turnG n g S) = goC n g (unL n p) S := tblOf_col hp (goC_len unL_len hs)
theorem turn_app {S U : List (Nat × Bool)} (hs : ∀ s ∈ S, Turns n (g s).1 ∧ Turns n (g s).2) (hu : ∀ s ∈ U, Turns n (g s).1 ∧ Turns n (g s).2) : joinL (turnG n g U) (turnG n g S) n = turnG n g (S ++ U) := by
  refine tbl_is (join_tbl turn_tbl) fun p hp => ?_
  rw [join_col turn_tbl turn_tbl.len hp, turn_col hp hs, turn_is (goC_len unL_len hs) hu, goC_app]
theorem turn_back {S : List (Nat × Bool)} (hs : ∀ s ∈ S, Turns n (g s).1 ∧ Turns n (g s).2) (hb : ∀ s, g (s.1, !s.2) = ((g s).2, (g s).1)) : turnG n g (S ++ backS S) = tblOf n n fun p => unL n p := tblOf_congr fun p _ => by rw [goC_app, go_back unL_len hs hb]
/-- what is led alike at both ends is carried -/
theorem step_sec {c d : List F} {s : Nat × Bool} (h2 : Turns n (g s).2) (hd : d.length = n) (h : actL (g s).1 c = actL (g s).2 d) : stepC n g c s = d := by
  unfold stepC
  rw [h, act_inv (inv_tbl h2.tbl h2.gen) h2.tbl (inv_left h2.tbl h2.gen) hd]
end
end
end Lin
namespace St
open Lin
section
variable {F : Type} [Lean.Grind.Field F] [DecidableEq F]
theorem up_le : ∀ {l : List Nat} {a b : Nat}, l.Pairwise (· < ·) → (∀ x ∈ l, a ≤ x ∧ x < b) → l.length ≤ b - a
  | [], _, _, _, _ => Nat.zero_le _
  | x :: l, a, b, h, k => by
    obtain ⟨h1, h2⟩ := List.pairwise_cons.mp h
    have hx := k x (List.mem_cons_self ..)
    have := up_le (a := x + 1) (b := b) h2 fun y hy => ⟨h1 y hy, (k y (List.mem_cons_of_mem _ hy)).2⟩
    rw [List.length_cons]
    omega
theorem up_full : ∀ {l : List Nat} {p n : Nat}, l.Pairwise (· < ·) → (∀ x ∈ l, p ≤ x ∧ x < p + n) → l.length = n → ∀ i, p ≤ i → i < p + n → i ∈ l
  | [], p, n, _, _, e, i, h1, h2 => by
    have e : 0 = n := e
    omega
  | x :: l, p, n, h, k, e, i, h1, h2 => by
    obtain ⟨g1, g2⟩ := List.pairwise_cons.mp h
    have hx := k x (List.mem_cons_self ..)
    rw [List.length_cons] at e
    have hl := up_le (a := x + 1) (b := p + n) g2 fun y hy => ⟨g1 y hy, (k y (List.mem_cons_of_mem _ hy)).2⟩
    by_cases c : i = x
    · rw [c]
      exact List.mem_cons_self ..
    · refine List.mem_cons_of_mem _ (up_full (p := p + 1) (n := n - 1) g2 (fun y hy => ?_) (by omega) i (by omega) (by omega))
      have := g1 y hy
      have := (k y (List.mem_cons_of_mem _ hy)).2
      omega
theorem turns_of {n : Nat} {T : List (List F)} (hT : Tbl n n T) (h : (redL n T).length = n) : Turns n T := by
  have ok := redL_ok hT.wid
  have R := ok.1.red
  have hs := (steps_okW (w := n) (W := n) (Nat.le_refl _) hT.wid).2.1
  have up : ((redL n T).map (·.1)).Pairwise (· < ·) := by
    have := R.up
    rw [show vecs (redL n T) = (redL n T).map fun a => (a.1, vec a.2) from rfl] at this
    rw [List.pairwise_map] at this ⊢
    exact this
  have lo : ∀ x ∈ (redL n T).map (·.1), 0 ≤ x ∧ x < 0 + n := fun x hx => by
    rw [ok.2] at hx
    obtain ⟨a, ha, rfl⟩ := List.mem_map.mp hx
    have := hs a ha
    omega
  have full := up_full up lo (by rw [List.length_map]; exact h)
  refine ⟨hT, fun i hi => ?_⟩
  obtain ⟨a, ha, ea⟩ := List.mem_map.mp (full i (Nat.zero_le _) (by omega))
  have hm : (a.1, vec a.2) ∈ vecs (redL n T) := List.mem_map_of_mem (f := fun a : Ll F => (a.1, vec a.2)) ha
  have e : vec a.2 = unV i := funext fun j => by
    unfold unV
    by_cases c : j = i
    · rw [if_pos c, c, ← ea]
      exact R.one _ hm
    · rw [if_neg c]
      by_cases d : j < n
      · obtain ⟨b, hb, eb⟩ := List.mem_map.mp (full j (Nat.zero_le _) (by omega))
        have hm2 : (b.1, vec b.2) ∈ vecs (redL n T) := List.mem_map_of_mem (f := fun a : Ll F => (a.1, vec a.2)) hb
        have := R.alone _ hm _ hm2 (fun q => c (by rw [← eb, ← ea]; first | exact q.symm | exact q))
        rw [← eb]
        exact this
      · exact vec_ge (by rw [ok.1.len a ha]; omega)
  rw [← e]
  exact ok.1.of a ha
theorem rank_le {w : Nat} {T : List (List F)} (hT : ∀ l ∈ T, l.length = w) : (redL w T).length ≤ w := by
  have ok := redL_ok hT
  have R := ok.1.red
  have hs := (steps_okW (w := w) (W := w) (Nat.le_refl _) hT).2.1
  have up : ((redL w T).map (·.1)).Pairwise (· < ·) := by
    have := R.up
    rw [show vecs (redL w T) = (redL w T).map fun a => (a.1, vec a.2) from rfl] at this
    rw [List.pairwise_map] at this ⊢
    exact this
  have := up_le (a := 0) (b := w) up fun x hx => by
    rw [ok.2] at hx
    obtain ⟨a, ha, rfl⟩ := List.mem_map.mp hx
    have := hs a ha
    omega
  rw [List.length_map] at this
  omega
/-- the rank of a table beside the units -/
theorem bes_rank {n : Nat} {T : List (List F)} (hT : Tbl n n T) : (redW n (besL n T)).length = (redL n T).length := (redW_len (W := n)).trans (by rw [besL_take hT])
end
end St
namespace LamX
open PySem PySem.Spec PyProof.Rows L2
/-- the tables of the defs of these names are empty -/
def OwnTabs (K : PySem.W.Frag) (mg : Str → Option Value) (names : List Str) (h : Heap) : Prop := ∀ n ∈ names, ∀ fb, mg n = some (.ref fb) → OwnTab K fb h
/-- the end where several defs hold lambdas -/
theorem walk_ofOwns {l : PySem.W.OpenLaw} {n k : Nat} {q : Program} {loose : List Str} {XP : (Str → Option Value) → Heap → Prop} {YP : World → Heap → Prop} {d : DefRec} {K : Params → PySem.W.Frag} {CX : World → CXT} {x : Str} (names : List Str)
    (hn : l.most = some n) (hn2 : n ≤ sizeLine) (hdf : d.params.defaults = []) (hr : Room k callerA) (hrec : (names.all fun z => (recsOf q).any fun e => e.name == z) = true) (hY : ∀ (w : World) (h : Heap), YP w h → (K w.params).In h)
    (F : ∀ (w : World) (mg : Str → Option Value) (fa : Addr) (h : Heap), YP w h → (K w.params).In h → h.Ns mainGlobals mg → mg d.name = some (.ref fa) → OwnTabs (K w.params) mg names h → LawAtS l w (K w.params) (CX w) k n x mg fa h)
    (hCX : ∀ (w : World) (H : Hp) (s : Shared) (e : Value) (s' : Shared), CX w [] H s (fun _ _ _ => False) e s' → False) :
    PySem.W.WalkO q loose XP YP l.row.toRowW d [] (fun f vs => PySem.call f vs) := by
  refine Att.attach_callB hn hdf fun w s₀ s₁ mg mb fa o pm cd doc a vs ns G Y ho hd hcd hmg hobj hints hlen hbits hg => ?_
  have KX := hY w _ Y
  have own : OwnTabs (K w.params) mg names s₁.heap := fun z hz fb hfb c P o1 fd1 e dd vs1 sl k1 k2 k3 k4 k5 => by
    obtain ⟨dL, hm, hn1⟩ := List.any_eq_true.mp (List.all_eq_true.mp hrec z hz)
    have hn2 : dL.name = z := beq_iff_eq.mp hn1
    obtain ⟨a', o', fd', c', P', h1, h2, h3, h4, h5, h6⟩ := G.T.tab dL hm
    rw [hn2, hfb] at h1
    cases h1
    have g1 := KX _ _ k1
    rw [g1] at h2
    cases h2
    rw [k2] at h3
    cases h3
    rw [k3] at h4
    cases h4
    obtain ⟨⟨oc, vc, e1, _, e3, e4⟩, hP⟩ := h6
    have g2 := KX _ _ k4
    rw [g2] at e1
    cases e1
    cases e3
    rw [k5] at e4
    cases e4
    exact hP
  obtain ⟨fd, cs, sp, hT, nT, C, hb, hsp, hF⟩ := F w mg fa _ Y KX G.T.g hmg own
  exact law_callTs KX G.T.g G.T.b G.T.builtins G.T.nolimit hg hT nT C G.T.bmain hobj hints (Nat.le_trans hlen hn2) hr hF hb (fun H hH hS => hsp H a ns hlen hbits hH hS) fun H e s' => hCX w H s₁ e s'
end LamX

namespace St
open PySem PySem.Spec PyProof.Rows L2
def topS (i : Nat) : Stmt := PySem.Challenge.pw_stalkweb_k04_tables_that_lead.main.body.getD i (.Pass ⟨0, 0, 0, 0⟩)
abbrev s__law_open : Stmt := topS 36
theorem sc__law_open : FnScope ["_law_script", "_law_seed", "_law_cell"] ["_law_script"] (defScope s__law_open) := ⟨rfl, rfl, rfl, by decide +kernel, rfl, by decide +kernel, by decide +kernel⟩
abbrev s__law_draw : Stmt := topS 37
theorem sc__law_draw : FnScope ["_law_box", "_law_many", "_law_cell", "_law_got", "_law_base"] ["_law_box", "_law_many"] (defScope s__law_draw) := ⟨rfl, rfl, rfl, by decide +kernel, rfl, by decide +kernel, by decide +kernel⟩
abbrev s__law_any : Stmt := topS 38
theorem sc__law_any : FnScope ["_law_box", "_law_some"] ["_law_box", "_law_some"] (defScope s__law_any) := ⟨rfl, rfl, rfl, by decide +kernel, rfl, by decide +kernel, by decide +kernel⟩
abbrev s__law_primes : Stmt := topS 42
theorem sc__law_primes : FnScope [] [] (defScope s__law_primes) := ⟨rfl, rfl, rfl, by decide +kernel, rfl, by decide +kernel, by decide +kernel⟩
abbrev s__law_field : Stmt := topS 43
theorem sc__law_field : FnScope ["_law_box"] ["_law_box"] (defScope s__law_field) := ⟨rfl, rfl, rfl, by decide +kernel, rfl, by decide +kernel, by decide +kernel⟩
abbrev s__law_odd_pair : Stmt := topS 53
theorem sc__law_odd_pair : FnScope ["_law_box", "_law_field_here", "_law_some"] ["_law_box", "_law_field_here"] (defScope s__law_odd_pair) := ⟨rfl, rfl, rfl, by decide +kernel, rfl, by decide +kernel, by decide +kernel⟩
abbrev s__law_bent_table : Stmt := topS 57
theorem sc__law_bent_table : FnScope ["_law_box", "_law_field_here", "_law_table_here", "_law_step", "_law_at", "_law_longer", "_law_row_here"] ["_law_box", "_law_field_here", "_law_table_here"] (defScope s__law_bent_table) := ⟨rfl, rfl, rfl, by decide +kernel, rfl, by decide +kernel, by decide +kernel⟩
abbrev s__law_gcd : Stmt := topS 44
theorem sc__law_gcd : FnScope ["_law_one", "_law_other"] ["_law_one", "_law_other"] (defScope s__law_gcd) := ⟨rfl, rfl, rfl, by decide +kernel, rfl, by decide +kernel, by decide +kernel⟩
abbrev s__law_num : Stmt := topS 45
theorem sc__law_num : FnScope ["_law_field_here", "_law_top", "_law_bottom", "_law_k", "_law_part"] ["_law_field_here", "_law_top", "_law_bottom"] (defScope s__law_num) := ⟨rfl, rfl, rfl, by decide +kernel, rfl, by decide +kernel, by decide +kernel⟩
abbrev s__law_number : Stmt := topS 50
theorem sc__law_number : FnScope ["_law_box", "_law_field_here", "_law_pick", "_law_top", "_law_bottom"] ["_law_box", "_law_field_here"] (defScope s__law_number) := ⟨rfl, rfl, rfl, by decide +kernel, rfl, by decide +kernel, by decide +kernel⟩
abbrev s__law_row : Stmt := topS 51
theorem sc__law_row : FnScope ["_law_box", "_law_field_here", "_law_width", "_law_k"] ["_law_box", "_law_field_here", "_law_width"] (defScope s__law_row) := ⟨rfl, rfl, rfl, by decide +kernel, rfl, by decide +kernel, by decide +kernel⟩
abbrev s__law_is_number : Stmt := topS 52
theorem sc__law_is_number : FnScope ["_law_field_here", "_law_number_here"] ["_law_field_here", "_law_number_here"] (defScope s__law_is_number) := ⟨rfl, rfl, rfl, by decide +kernel, rfl, by decide +kernel, by decide +kernel⟩
abbrev s__law_numbers_good : Stmt := topS 56
theorem sc__law_numbers_good : FnScope ["_law_field_here", "_law_rows", "_law_row_here", "_law_number_here"] ["_law_field_here", "_law_rows"] (defScope s__law_numbers_good) := ⟨rfl, rfl, rfl, by decide +kernel, rfl, by decide +kernel, by decide +kernel⟩
abbrev s__law_lead_word : Stmt := topS 58
theorem sc__law_lead_word : FnScope ["_law_field_here", "_law_table_here", "_law_column", "_law_row_here"] ["_law_field_here", "_law_table_here", "_law_column"] (defScope s__law_lead_word) := ⟨rfl, rfl, rfl, by decide +kernel, rfl, by decide +kernel, by decide +kernel⟩
abbrev s__law_table : Stmt := topS 55
theorem sc__law_table : FnScope ["_law_box", "_law_field_here", "_law_room", "_law_wide", "_law_k"] ["_law_box", "_law_field_here", "_law_room", "_law_wide"] (defScope s__law_table) := ⟨rfl, rfl, rfl, by decide +kernel, rfl, by decide +kernel, by decide +kernel⟩
abbrev s__law_int : Stmt := topS 39
theorem sc__law_int : FnScope ["_law_found"] ["_law_found"] (defScope s__law_int) := ⟨rfl, rfl, rfl, by decide +kernel, rfl, by decide +kernel, by decide +kernel⟩
abbrev s__law_like : Stmt := topS 40
theorem sc__law_like : FnScope ["_law_found", "_law_due", "_law_k"] ["_law_found", "_law_due"] (defScope s__law_like) := ⟨rfl, rfl, rfl, by decide +kernel, rfl, by decide +kernel, by decide +kernel⟩
abbrev s__law_behind_word : Stmt := topS 59
theorem sc__law_behind_word : FnScope ["_law_field_here", "_law_table_here", "_law_other", "_law_wide", "_law_row_here"] ["_law_field_here", "_law_table_here", "_law_other"] (defScope s__law_behind_word) := ⟨rfl, rfl, rfl, by decide +kernel, rfl, by decide +kernel, by decide +kernel⟩
abbrev s__law_why : Stmt := topS 41
theorem sc__law_why : FnScope ["_law_ask", "_law_told", "_law_word", "e"] ["_law_ask"] (defScope s__law_why) := ⟨rfl, rfl, rfl, by decide +kernel, rfl, by decide +kernel, by decide +kernel⟩
abbrev s__law_plus : Stmt := topS 46
theorem sc__law_plus : FnScope ["_law_field_here", "_law_one", "_law_other"] ["_law_field_here", "_law_one", "_law_other"] (defScope s__law_plus) := ⟨rfl, rfl, rfl, by decide +kernel, rfl, by decide +kernel, by decide +kernel⟩
abbrev s__law_times : Stmt := topS 47
theorem sc__law_times : FnScope ["_law_field_here", "_law_one", "_law_other"] ["_law_field_here", "_law_one", "_law_other"] (defScope s__law_times) := ⟨rfl, rfl, rfl, by decide +kernel, rfl, by decide +kernel, by decide +kernel⟩
abbrev s__law_dot : Stmt := topS 48
theorem sc__law_dot : FnScope ["_law_field_here", "_law_row_here", "_law_column", "_law_found", "_law_k"] ["_law_field_here", "_law_row_here", "_law_column"] (defScope s__law_dot) := ⟨rfl, rfl, rfl, by decide +kernel, rfl, by decide +kernel, by decide +kernel⟩
abbrev s__law_led : Stmt := topS 49
theorem sc__law_led : FnScope ["_law_field_here", "_law_table_here", "_law_column", "_law_row_here"] ["_law_field_here", "_law_table_here", "_law_column"] (defScope s__law_led) := ⟨rfl, rfl, rfl, by decide +kernel, rfl, by decide +kernel, by decide +kernel⟩
abbrev s_is_field : Stmt := topS 26
theorem sc_is_field : FnScope ["field"] ["field"] (defScope s_is_field) := ⟨rfl, rfl, rfl, by decide +kernel, rfl, by decide +kernel, by decide +kernel⟩
abbrev s_check_field : Stmt := topS 23
theorem sc_check_field : FnScope ["field"] ["field"] (defScope s_check_field) := ⟨rfl, rfl, rfl, by decide +kernel, rfl, by decide +kernel, by decide +kernel⟩
abbrev s_check_lengths : Stmt := topS 31
theorem sc_check_lengths : FnScope ["table", "length", "row"] ["table", "length"] (defScope s_check_lengths) := ⟨rfl, rfl, rfl, by decide +kernel, rfl, by decide +kernel, by decide +kernel⟩
abbrev s_fits : Stmt := topS 24
theorem sc_fits : FnScope ["field", "number", "top", "bottom"] ["field", "number"] (defScope s_fits) := ⟨rfl, rfl, rfl, by decide +kernel, rfl, by decide +kernel, by decide +kernel⟩
abbrev s_check_numbers : Stmt := topS 25
theorem sc_check_numbers : FnScope ["field", "numbers", "number"] ["field", "numbers"] (defScope s_check_numbers) := ⟨rfl, rfl, rfl, by decide +kernel, rfl, by decide +kernel, by decide +kernel⟩
abbrev s_check_row_numbers : Stmt := topS 28
theorem sc_check_row_numbers : FnScope ["field", "rows", "row"] ["field", "rows"] (defScope s_check_row_numbers) := ⟨rfl, rfl, rfl, by decide +kernel, rfl, by decide +kernel, by decide +kernel⟩
abbrev s_added : Stmt := topS 12
theorem sc_added : FnScope ["field", "one", "other", "shared", "part", "top", "common"] ["field", "one", "other"] (defScope s_added) := ⟨rfl, rfl, rfl, by decide +kernel, rfl, by decide +kernel, by decide +kernel⟩
abbrev s_inverse : Stmt := topS 10
theorem sc_inverse : FnScope ["prime", "whole", "found", "_"] ["prime", "whole"] (defScope s_inverse) := ⟨rfl, rfl, rfl, by decide +kernel, rfl, by decide +kernel, by decide +kernel⟩
abbrev s_lowest : Stmt := topS 11
theorem sc_lowest : FnScope ["field", "top", "bottom", "shared"] ["field", "top", "bottom"] (defScope s_lowest) := ⟨rfl, rfl, rfl, by decide +kernel, rfl, by decide +kernel, by decide +kernel⟩
abbrev s_multiplied : Stmt := topS 13
theorem sc_multiplied : FnScope ["field", "one", "other"] ["field", "one", "other"] (defScope s_multiplied) := ⟨rfl, rfl, rfl, by decide +kernel, rfl, by decide +kernel, by decide +kernel⟩
abbrev s_paired : Stmt := topS 17
theorem sc_paired : FnScope ["field", "row", "column", "total", "one", "other"] ["field", "row", "column"] (defScope s_paired) := ⟨rfl, rfl, rfl, by decide +kernel, rfl, by decide +kernel, by decide +kernel⟩
abbrev s_led : Stmt := topS 18
theorem sc_led : FnScope ["field", "table", "column", "row"] ["field", "table", "column"] (defScope s_led) := ⟨rfl, rfl, rfl, by decide +kernel, rfl, by decide +kernel, by decide +kernel⟩
abbrev s_lead : Stmt := topS 32
theorem sc_lead : FnScope ["field", "table", "column"] ["field", "table", "column"] (defScope s_lead) := ⟨rfl, rfl, rfl, by decide +kernel, rfl, by decide +kernel, by decide +kernel⟩
abbrev s_turned : Stmt := topS 15
theorem sc_turned : FnScope ["rows", "width", "place", "row"] ["rows", "width"] (defScope s_turned) := ⟨rfl, rfl, rfl, by decide +kernel, rfl, by decide +kernel, by decide +kernel⟩
abbrev s_joined : Stmt := topS 19
theorem sc_joined : FnScope ["field", "table", "other", "length", "columns", "row"] ["field", "table", "other", "length"] (defScope s_joined) := ⟨rfl, rfl, rfl, by decide +kernel, rfl, by decide +kernel, by decide +kernel⟩
abbrev s_row_length : Stmt := topS 30
theorem sc_row_length : FnScope ["table"] ["table"] (defScope s_row_length) := ⟨rfl, rfl, rfl, by decide +kernel, rfl, by decide +kernel, by decide +kernel⟩
abbrev s_behind : Stmt := topS 33
theorem sc_behind : FnScope ["field", "table", "other"] ["field", "table", "other"] (defScope s_behind) := ⟨rfl, rfl, rfl, by decide +kernel, rfl, by decide +kernel, by decide +kernel⟩
abbrev s__law_numbers : Stmt := topS 54
theorem sc__law_numbers : FnScope ["_law_found", "_law_field_here", "_law_number_here"] ["_law_found", "_law_field_here"] (defScope s__law_numbers) := ⟨rfl, rfl, rfl, by decide +kernel, rfl, by decide +kernel, by decide +kernel⟩
abbrev s__law_behind_so : Stmt := topS 60
theorem sc__law_behind_so : FnScope ["_law_box", "_law_field_here", "_law_table_here", "_law_other", "_law_found", "_law_why_here", "_law_word", "_law_wide", "_law_row_here", "_law_last"] ["_law_box", "_law_field_here", "_law_table_here", "_law_other"] (defScope s__law_behind_so) := ⟨rfl, rfl, rfl, by decide +kernel, rfl, by decide +kernel, by decide +kernel⟩
abbrev s_still_table : Stmt := topS 20
theorem sc_still_table : FnScope ["room", "place", "at"] ["room"] (defScope s_still_table) := ⟨rfl, rfl, rfl, by decide +kernel, rfl, by decide +kernel, by decide +kernel⟩
abbrev s_still : Stmt := topS 34
theorem sc_still : FnScope ["field", "room"] ["field", "room"] (defScope s_still) := ⟨rfl, rfl, rfl, by decide +kernel, rfl, by decide +kernel, by decide +kernel⟩
abbrev s__law_still_so : Stmt := topS 61
theorem sc__law_still_so : FnScope ["_law_box", "_law_field_here", "_law_room", "_law_k", "_law_at", "_law_due", "_law_column"] ["_law_box", "_law_field_here", "_law_room"] (defScope s__law_still_so) := ⟨rfl, rfl, rfl, by decide +kernel, rfl, by decide +kernel, by decide +kernel⟩
abbrev s_law : Stmt := topS 62
theorem sc_law : FnScope ["_law_script", "_law_box", "_law_turn", "_law_field_here", "_law_k", "_law_rooms", "_law_table_here", "_law_other", "_law_column", "_law_word", "_law_due", "_law_longer", "_law_words"] ["_law_script"] (defScope s_law) := ⟨rfl, rfl, rfl, by decide +kernel, rfl, by decide +kernel, by decide +kernel⟩
/-! ### said of a def -/
def Def (P : Program) (w : World) (K : PySem.W.Frag) (mg : Str → Option Value) (base : Heap) (x : Str) (k : Nat) (ps : List Str) (sp : Sp) : Prop :=
  ∃ (f : Addr) (fd : FuncData), FnOk P w K mg base CX0 k f fd ps sp ∧ mg x = some (.ref f) ∧ PySem.W.keepIn K (.ref f) = true ∧ Binds K fd ps []
def Raw (K : PySem.W.Frag) (mg : Str → Option Value) (x : Str) (st : Stmt) : Prop := ∃ (f : Addr) (fd : FuncData), Fun K x x st f fd ∧ mg x = some (.ref f)
structure Bn (mg : Str → Option Value) : Prop where
  len : mg "len" = none
  min : mg "min" = none
  set : mg "set" = none
  range : mg "range" = none
  all : mg "all" = none
  abs : mg "abs" = none
  list : mg "list" = none
  gcd : mg "gcd" = some (.builtin "math.gcd")
  isinstance : mg "isinstance" = none
  int : mg "int" = none
  bool : mg "bool" = none
  str : mg "str" = none
  tuple : mg "tuple" = none
  zip : mg "zip" = none
  enumerate : mg "enumerate" = none
  reversed : mg "reversed" = none
  any : mg "any" = none
  sorted : mg "sorted" = none
  sum : mg "sum" = none
/-! ### tests on ints -/
theorem eqI {a b : Int} (e : decide (V.int a = V.int b) = true) : a = b := V.int.inj (of_decide_eq_true e)
theorem neI {a b : Int} (e : ¬ decide (V.int a = V.int b) = true) : a ≠ b := fun q => e (decide_eq_true (congrArg V.int q))
theorem neE {a b : Int} (e : (!decide (V.int a = V.int b)) = true) : a ≠ b := fun q => by
  rw [decide_eq_true (congrArg V.int q)] at e
  cases e
theorem neN {a b : Int} (e : ¬ (!decide (V.int a = V.int b)) = true) : a = b := by
  by_cases h : a = b
  · exact h
  · exfalso
    apply e
    rw [decide_eq_false (fun q => h (V.int.inj q))]
    rfl
theorem decI (a b : Int) : decide (V.int a = V.int b) = decide (a = b) := by
  by_cases h : a = b
  · rw [decide_eq_true h, decide_eq_true (congrArg V.int h)]
  · rw [decide_eq_false h, decide_eq_false (fun q => h (V.int.inj q))]
/-! ### numbers on the heap -/
theorem Same.seqT {K : PySem.W.Frag} {H H' : Hp} {a : Addr} {xs : List V} (e : Same H H') (h : SqT K H a xs) : SqT K H' a xs := by
  rcases h with (h | ⟨o, h⟩) | h
  · exact .inl (.inl (e _ _ h))
  · exact .inl (.inr ⟨o, e _ _ h⟩)
  · exact .inr h
theorem same_new {H : Hp} {p : Addr} {o : HO} (h : H p = none) : Same H (upd H p o) := fun b x e => by
  rw [upd_ne (ne_of_none e h)]
  exact e
def NumV (K : PySem.W.Frag) (H : Hp) (v : V) (q : Pr) : Prop := ∃ p : Addr, v = .ref p ∧ SqT K H p [.int q.1, .int q.2]
theorem NumV.same {K : PySem.W.Frag} {H H' : Hp} {v : V} {q : Pr} (h : NumV K H v q) (e : Same H H') : NumV K H' v q := by
  obtain ⟨p, h1, h2⟩ := h
  exact ⟨p, h1, Same.seqT e h2⟩
theorem NumV.new {K : PySem.W.Frag} {H : Hp} {p : Addr} (a b : Int) : NumV K (upd H p (.tup [.int a, .int b])) (.ref p) (a, b) := ⟨p, rfl, SqT.of upd_same⟩
/-- a number is told, a new object or one that stood -/
def RetN (K : PySem.W.Frag) (H : Hp) (Q : VK) (q : Pr) : Prop := ∀ (H' : Hp) (v : V), Same H H' → NumV K H' v q → Q v H'
theorem RetN.new {K : PySem.W.Frag} {H : Hp} {Q : VK} {a b : Int} {q : Pr} (h : RetN K H Q q) (e : q = (a, b)) {p : Addr} (hp : H p = none) : Q (.ref p) (upd H p (.tup [.int a, .int b])) := by
  subst e
  exact h _ _ (same_new hp) (NumV.new a b)
def Sm (n : Nat) (q : Pr) : Prop := q.1.natAbs < 2 ^ n ∧ q.2.natAbs < 2 ^ n
theorem Sm.mono {n m : Nat} {q : Pr} (h : Sm n q) (k : n ≤ m) : Sm m q := ⟨Nat.lt_of_lt_of_le h.1 (Nat.pow_le_pow_right (by decide) k), Nat.lt_of_lt_of_le h.2 (Nat.pow_le_pow_right (by decide) k)⟩
/-- // by any divisor but 0 that is below 2 ^ 9000 in size -/
def CDivA (_ j : Int) : Prop := j ≠ 0 ∧ j.natAbs.log2 < 9000
theorem op_fdivA {X : Cx} : OpR X (binaryOp .FloorDiv) (rI CDivA fun i j => .int (i.fdiv j)) := opI fun _ _ _ _ _ _ _ hc q => floordiv_int hc.1 q (.inl (PyProof.noPylong_of_log2 hc.2))
theorem divA {i j : Int} {b : Nat} (h : j ≠ 0) (hb : j.natAbs < 2 ^ b) (h0 : 0 < b) (h9 : b ≤ 9000) : CDivA i j := ⟨h, Nat.lt_of_lt_of_le (PySem.Flt.log2_lt_of h0 hb) h9⟩
/-! ### fields -/
theorem IsF.nn {f : Int} (h : IsF f) : 0 ≤ f := by
  rcases h with rfl | ⟨p, _, rfl⟩ <;> omega
theorem IsF.two {f : Int} (h : IsF f) (h0 : f ≠ 0) : 2 ≤ f ∧ f ≤ 97 := by
  rcases h with h | ⟨p, hp, rfl⟩
  · exact absurd h h0
  · have := prime_big p hp
    omega
theorem powm_bd {p b : Int} (hp : 2 ≤ p) : ∀ n, 0 ≤ powm p b n ∧ powm p b n < p
  | 0 => ⟨by show (0 : Int) ≤ 1; omega, by show (1 : Int) < p; omega⟩
  | n + 1 => ⟨Int.emod_nonneg _ (by omega), Int.emod_lt_of_pos _ (by omega)⟩
def nouB (f w : Int) : Bool := if f = 0 then decide (w = 0) else decide (w % f = 0)
theorem nouB0 {w : Int} : nouB 0 w = decide (w = 0) := if_pos rfl
theorem nouB1 {f w : Int} (h : f ≠ 0) : nouB f w = decide (w % f = 0) := if_neg h
theorem gOf_ne {t b : Int} (hb : b ≠ 0) : gOf t b ≠ 0 := by
  have : (Nat.gcd t.natAbs b.natAbs : Nat) ≠ 0 := by
    intro h
    rw [Nat.gcd_eq_zero_iff] at h
    omega
  unfold gOf
  split <;> omega
theorem gOf_le {t b : Int} (hb : b ≠ 0) : (gOf t b).natAbs ≤ b.natAbs := by
  have : Nat.gcd t.natAbs b.natAbs ≤ b.natAbs := Nat.le_of_dvd (by omega) (Nat.gcd_dvd_right _ _)
  unfold gOf
  split <;> omega
theorem tYes_of {σ : L2.St} {H : Hp} {Q : Bool → Hp → Prop} (h : Q true H) : tYes σ H Q := h
theorem tIfS_join {c : TT} {t u : TS} {D : Ends} {σ : L2.St} {H : Hp} (M : L2.St → Hp → Prop) (hM : ∀ σ' H', M σ' H' → D.nx σ' H') (h : (∀ σ' H', M σ' H' → D.nx σ' H') → tIfS c t u D σ H) : tIfS c t u D σ H := h hM
theorem same_seqT_upd {H H' : Hp} (e : Same H H') {D : Addr} {l : List V} {o : HO} (hD : H D = none) (h : H' D = some (.lst l)) : Same H (upd H' D o) := fun b x q => by
  have nb : b ≠ D := ne_of_none q hD
  rw [upd_ne nb]
  exact e b x q
theorem at0 (a b : V) : atI [a, b] 0 = some a := rfl
theorem at1 (a b : V) : atI [a, b] 1 = some b := rfl
theorem ix_nat {n k : Nat} (h : k < n) : ixN n (k : Int) = some k := by
  unfold ixN
  simp [h]
def rMinTwo : List V → Hp → VK → Prop := fun xs H Q => ∃ i j : Int, xs = [.int i, .int j] ∧ Q (.int (if j < i then j else i)) H

/-- // by any divisor but 0 where C does it by itself -/
def CDivB (i j : Int) : Prop := j ≠ 0 ∧ Builtin.divisionGoesByPylong i j = false
theorem op_fdivB {X : Cx} : OpR X (binaryOp .FloorDiv) (rI CDivB fun i j => .int (i.fdiv j)) := opI fun _ _ _ _ _ _ _ hc q => floordiv_int hc.1 q (.inl hc.2)
theorem divB {i j : Int} (hi : i.natAbs < 2 ^ 13500) (hj : j ≠ 0) : CDivB i j := by
  refine ⟨hj, ?_⟩
  have l1 : i.natAbs.log2 < 13500 := PySem.Flt.log2_lt_of (by decide) hi
  show (decide ((if j == 0 then 0 else j.natAbs.log2 / 30 + 1) > 300) && decide ((if i == 0 then 0 else i.natAbs.log2 / 30 + 1) > (if j == 0 then 0 else j.natAbs.log2 / 30 + 1) + 150)) = false
  rw [Bool.and_eq_false_iff]
  by_cases h : (if (j == 0) = true then 0 else j.natAbs.log2 / 30 + 1) > 300
  · right
    refine decide_eq_false ?_
    have : (if (i == 0) = true then 0 else i.natAbs.log2 / 30 + 1) ≤ 450 := by
      split <;> omega
    omega
  · left
    exact decide_eq_false h
theorem IsN.den {q : Pr} (h : IsN 0 q) : 1 ≤ q.2 ∧ Nat.gcd q.1.natAbs q.2.natAbs = 1 := by
  rcases h with ⟨_, h1, h2⟩ | ⟨h, _⟩
  · exact ⟨h1, h2⟩
  · exact absurd rfl h
/-! ## stalkweb.arithmetic -/
def spInv : Sp := fun vs H Q _ => ∃ p b : Int, vs = [.int p, .int b] ∧ 2 ≤ p ∧ p ≤ 97 ∧ 0 ≤ b ∧ b < p ∧ Q (.int (powm p b (p - 2).toNat)) H
theorem len_inverse {vs H Q E} (h : spInv vs H Q E) : vs.length = (["prime", "whole"] : List Str).length := by
  obtain ⟨f, w, rfl, _⟩ := h
  rfl
theorem d_inverse {P : Program} {w : World} {K : PySem.W.Frag} {mg : Str → Option Value} {base : Heap} (R : Raw K mg "inverse" s_inverse) (B : Bn mg)  : Def P w K mg base "inverse" 1 ["prime", "whole"] (spInv) := by
  obtain ⟨f, fd, F, m⟩ := R
  refine ⟨f, fd, F.ok sc_inverse (fun vs H Q E h => ?_) (fun cdv A outer s H vs Q E hr h => ?_), m, F.kp, F.binds (ps := ["prime", "whole"]) fun _ _ _ _ _ _ us hl => match us, hl with | [_, _], _ => rfl⟩
  · exact len_inverse h

  · obtain ⟨a, b, rfl, h2, h97, hb0, hb1, q⟩ := h
    refine ⟨_, (pss_cons (ps_set (i := 2) sc_inverse.nd rfl (Or.inl rfl) pe_int) (pss_cons (ps_for PassesOwn.never rfl (pi_range1 (by rfl) B.range (pa_cons (pe_op op_sub (pv 0) pe_int) pa_nil)) (pg_name (i := 3) sc_inverse.nd rfl (Or.inl rfl)) (pss_one (ps_set (i := 2) sc_inverse.nd rfl (Or.inl rfl) (pe_op op_mod (pe_op op_mul (pv 2) (pv 1)) (pv 0))))) (pss_one (ps_ret (pv 2))))), ?_⟩
    refine ⟨_, rfl, _, _, rfl, rfl, a - 2, rfl, by omega, by omega, ?_⟩
    refine for_range (lo := 0) (n := (a - 2).toNat) (fun i σ H' => H' = H ∧ ∃ z, σ = [some (.int a), some (.int b), some (.int (powm a b i)), z]) ⟨rfl, none, rfl⟩ ?_ ?_
    · rintro i σ H' hi ⟨rfl, z, rfl⟩
      have hb := powm_bd (b := b) h2 i
      refine ⟨_, rfl, _, rfl, _, _, rfl, rfl, .inl ⟨by omega, by omega⟩, _, rfl, _, _, rfl, rfl, (by show (0 : Int) < a; omega), rfl, _, rfl⟩
    · rintro σ H' ⟨rfl, z, rfl⟩
      exact ⟨_, rfl, q⟩
/-- top over bottom -/
def spLow (K : PySem.W.Frag) : Sp := fun vs H Q _ => ∃ f t b : Int, vs = [.int f, .int t, .int b] ∧ IsF f ∧ nouB f b = false ∧ (f = 0 → t.natAbs < 2 ^ 13500 ∧ b.natAbs < 2 ^ 13500) ∧ RetN K H Q (low f t b)
theorem len_lowest {K vs H Q E} (h : spLow K vs H Q E) : vs.length = (["field", "top", "bottom"] : List Str).length := by
  obtain ⟨f, t, b, rfl, _⟩ := h
  rfl
theorem d_lowest {P : Program} {w : World} {K : PySem.W.Frag} {mg : Str → Option Value} {base : Heap} (R : Raw K mg "lowest" s_lowest) (B : Bn mg) (D_inverse : Def P w K mg base "inverse" 1 ["prime", "whole"] (spInv)) : Def P w K mg base "lowest" 2 ["field", "top", "bottom"] (spLow K) := by
  obtain ⟨f, fd, F, m⟩ := R
  obtain ⟨f_inverse, fd_inverse, G_inverse, m_inverse, k_inverse, b_inverse⟩ := D_inverse
  refine ⟨f, fd, F.ok sc_lowest (fun vs H Q E h => ?_) (fun cdv A outer s H vs Q E hr h => ?_), m, F.kp, F.binds (ps := ["field", "top", "bottom"]) fun _ _ _ _ _ _ us hl => match us, hl with | [_, _, _], _ => rfl⟩
  · exact len_lowest h

  · obtain ⟨a, t, b, rfl, hf, hn, hs, q⟩ := h
    refine ⟨_, (pss_cons (ps_if (pt_cmpR op_ne (pv 0) pe_int (nomark _)) (pss_one (ps_ret (pe_tup (pa_cons (pe_op op_mod (pe_op op_mul (pe_op op_mod (pv 1) (pv 0)) (pe_call G_inverse (hr.mono (by omega)) (by rfl) m_inverse k_inverse b_inverse .nil pass0 (pa_cons (pv 0) (pa_cons (pe_op op_mod (pv 2) (pv 0)) pa_nil)))) (pv 0)) (pa_cons pe_int pa_nil))))) pss_nil) (pss_cons (ps_set (i := 3) sc_lowest.nd rfl (Or.inl rfl) (pe_callBfun cr_gcd (by rfl) B.gcd (pa_cons (pv 1) (pa_cons (pv 2) pa_nil)))) (pss_cons (ps_if (pt_cmpR op_lt (pv 2) pe_int (nomark _)) (pss_one (ps_set (i := 3) sc_lowest.nd rfl (Or.inl rfl) (pe_un un_neg (pv 3)))) pss_nil) (pss_one (ps_ret (pe_tup (pa_cons (pe_op op_fdivB (pv 1) (pv 3)) (pa_cons (pe_op op_fdivB (pv 2) (pv 3)) pa_nil)))))))), ?_⟩
    refine ⟨_, rfl, rfl, _, rfl, ite2 (fun e => ?_) (fun e => ?_)⟩
    · have e := neE e
      have h2 := hf.two e
      have m0 : 0 ≤ t % a := Int.emod_nonneg t (by omega)
      have m1 : t % a < a := Int.emod_lt_of_pos t (by omega)
      have n0 : 0 ≤ b % a := Int.emod_nonneg b (by omega)
      have n1 : b % a < a := Int.emod_lt_of_pos b (by omega)
      refine ⟨_, rfl, _, rfl, _, _, rfl, rfl, (by show (0 : Int) < a; omega), _, rfl, _, rfl, _, rfl, _, _, rfl, rfl, (by show (0 : Int) < a; omega), ?_⟩
      refine ⟨a, b % a, rfl, h2.1, h2.2, n0, n1, ?_⟩
      refine ⟨_, _, rfl, rfl, .inl ⟨by omega, by omega⟩, _, rfl, _, _, rfl, rfl, (by show (0 : Int) < a; omega), (by show 2 ≤ sizeLine; decide), fun p hp => ?_⟩
      exact q.new (by unfold low; rw [if_pos e]) hp
    · have e := neN e
      subst e
      have hb : b ≠ 0 := by
        rw [nouB0] at hn
        exact of_decide_eq_false hn
      have hs := hs rfl
      have hg := gOf_ne (t := t) hb
      have hgl := gOf_le (t := t) hb
      have hq : low 0 t b = (t.fdiv (gOf t b), b.fdiv (gOf t b)) := by
        unfold low
        rw [if_neg (by simp)]
      have ht := divB hs.1 hg
      have hd := divB hs.2 hg
      refine ⟨_, rfl, _, rfl, _, _, rfl, ?_⟩
      refine ⟨_, rfl, _, _, rfl, rfl, _, rfl, ite2 (fun e => ?_) (fun e => ?_)⟩
      · have e := of_decide_eq_true e
        have eg : -((Nat.gcd t.natAbs b.natAbs : Nat) : Int) = gOf t b := by
          unfold gOf
          rw [if_pos e]
        refine ⟨_, rfl, _, rfl, ?_⟩
        dsimp only
        rw [eg]
        refine ⟨_, rfl, _, rfl, _, _, rfl, rfl, ht, _, rfl, _, rfl, _, _, rfl, rfl, hd, (by show 2 ≤ sizeLine; decide), fun p hp => ?_⟩
        exact q.new hq hp
      · have e := of_decide_eq_false (eq_false_of_ne_true e)
        have eg : ((Nat.gcd t.natAbs b.natAbs : Nat) : Int) = gOf t b := by
          unfold gOf
          rw [if_neg e]
        rw [eg]
        refine ⟨_, rfl, _, rfl, _, _, rfl, rfl, ht, _, rfl, _, rfl, _, _, rfl, rfl, hd, (by show 2 ≤ sizeLine; decide), fun p hp => ?_⟩
        exact q.new hq hp

/-- what a pair must be so that sums and products go through -/
structure Ok (f : Int) (q : Pr) : Prop where
  num : IsN f q
  sm : Sm 6700 q
theorem mul_small {a b : Int} {n m : Nat} (ha : a.natAbs < 2 ^ n) (hb : b.natAbs < 2 ^ m) : (a * b).natAbs < 2 ^ (n + m) := wide_lt ha hb
def spTwo (K : PySem.W.Frag) (g : Int → Pr → Pr → Pr) : Sp := fun vs H Q _ => ∃ (f : Int) (x y : V) (p q : Pr), vs = [.int f, x, y] ∧ IsF f ∧ NumV K H x p ∧ NumV K H y q ∧ Ok f p ∧ Ok f q ∧ RetN K H Q (g f p q)
theorem len_two {K g vs H Q E} (h : spTwo K g vs H Q E) : vs.length = (["field", "one", "other"] : List Str).length := by
  obtain ⟨f, x, y, p, q, rfl, _⟩ := h
  rfl
theorem big_sum {a b c d : Int} (ha : a.natAbs < 2 ^ 6700) (hb : b.natAbs < 2 ^ 6700) (hc : c.natAbs < 2 ^ 6700) (hd : d.natAbs < 2 ^ 6700) : (a * b + c * d).natAbs < 2 ^ 13500 := by
  have h1 := mul_small ha hb
  have h2 := mul_small hc hd
  have h3 := Int.natAbs_add_le (a * b) (c * d)
  have h4 : (2 : Nat) ^ (6700 + 6700 + 1) ≤ 2 ^ 13500 := Nat.pow_le_pow_right (by decide) (by decide)
  rw [Nat.pow_succ] at h4
  omega
theorem big_mul {a b : Int} (ha : a.natAbs < 2 ^ 6700) (hb : b.natAbs < 2 ^ 6700) : (a * b).natAbs < 2 ^ 13500 := Nat.lt_trans (mul_small ha hb) (Nat.pow_lt_pow_right (by decide) (by decide))
theorem big_one {a : Int} (ha : a.natAbs < 2 ^ 6700) : a.natAbs < 2 ^ 13500 := Nat.lt_trans ha (Nat.pow_lt_pow_right (by decide) (by decide))
theorem wm {i j : Int} (hi : i.natAbs < 2 ^ 6700) (hj : j.natAbs < 2 ^ 6700) : CMulW i j := wide_mul hi hj (by decide) (by decide) (by decide)
theorem d_added {P : Program} {w : World} {K : PySem.W.Frag} {mg : Str → Option Value} {base : Heap} (R : Raw K mg "added" s_added) (B : Bn mg)  : Def P w K mg base "added" 1 ["field", "one", "other"] (spTwo K addN) := by
  obtain ⟨f, fd, F, m⟩ := R
  refine ⟨f, fd, F.ok sc_added (fun vs H Q E h => ?_) (fun cdv A outer s H vs Q E hr h => ?_), m, F.kp, F.binds (ps := ["field", "one", "other"]) fun _ _ _ _ _ _ us hl => match us, hl with | [_, _, _], _ => rfl⟩
  · exact len_two h

  · obtain ⟨a, x, y, p, r, rfl, hf, ⟨px, rfl, hx⟩, ⟨py, rfl, hy⟩, ⟨np, sp⟩, ⟨nr, sr⟩, q⟩ := h
    refine ⟨_, (pss_cons (ps_if (pt_cmpR op_ne (pv 0) pe_int (nomark _)) (pss_one (ps_ret (pe_tup (pa_cons (pe_op op_mod (pe_op op_add (pe_ix ix_tup (pv 1) pe_int (fun _ _ => rfl)) (pe_ix ix_tup (pv 2) pe_int (fun _ _ => rfl))) (pv 0)) (pa_cons pe_int pa_nil))))) pss_nil) (pss_cons (ps_set (i := 3) sc_added.nd rfl (Or.inl rfl) (pe_callBfun cr_gcd (by rfl) B.gcd (pa_cons (pe_ix ix_tup (pv 1) pe_int (fun _ _ => rfl)) (pa_cons (pe_ix ix_tup (pv 2) pe_int (fun _ _ => rfl)) pa_nil)))) (pss_cons (ps_set (i := 4) sc_added.nd rfl (Or.inl rfl) (pe_op op_fdivB (pe_ix ix_tup (pv 1) pe_int (fun _ _ => rfl)) (pv 3))) (pss_cons (ps_set (i := 5) sc_added.nd rfl (Or.inl rfl) (pe_op op_add (pe_op op_mulW (pe_ix ix_tup (pv 1) pe_int (fun _ _ => rfl)) (pe_op op_fdivB (pe_ix ix_tup (pv 2) pe_int (fun _ _ => rfl)) (pv 3))) (pe_op op_mulW (pe_ix ix_tup (pv 2) pe_int (fun _ _ => rfl)) (pv 4)))) (pss_cons (ps_set (i := 6) sc_added.nd rfl (Or.inl rfl) (pe_callBfun cr_gcd (by rfl) B.gcd (pa_cons (pv 5) (pa_cons (pv 3) pa_nil)))) (pss_one (ps_ret (pe_tup (pa_cons (pe_op op_fdivB (pv 5) (pv 6)) (pa_cons (pe_op op_mulW (pv 4) (pe_op op_fdivB (pe_ix ix_tup (pv 2) pe_int (fun _ _ => rfl)) (pv 6))) pa_nil)))))))))), ?_⟩
    refine ⟨_, rfl, rfl, _, rfl, ite2 (fun e => ?_) (fun e => ?_)⟩
    · have e := neE e
      have h2 := hf.two e
      refine ⟨_, rfl, px, _, _, _, rfl, rfl, hx, at0 _ _, _, rfl, py, _, _, _, rfl, rfl, hy, at0 _ _, _, _, rfl, rfl, _, rfl, _, _, rfl, rfl, (by show (0 : Int) < a; omega), (by show 2 ≤ sizeLine; decide), fun z hz => ?_⟩
      exact q.new (by unfold addN; rw [if_pos e]) hz
    · have e := neN e
      subst e
      have hp := np.den.1
      have hr' := nr.den.1
      have hs := sh_bd (q := r) np
      have hc := co_bd (q := r) np
      have b1 : (paB p r).natAbs < 2 ^ 6700 := Nat.lt_of_le_of_lt (fdiv_le (by omega) (by omega)) sp.2
      have b2 : (r.2.fdiv (shB p r)).natAbs < 2 ^ 6700 := Nat.lt_of_le_of_lt (fdiv_le (by omega) (by omega)) sr.2
      have b3 : (r.2.fdiv (coB p r)).natAbs < 2 ^ 6700 := Nat.lt_of_le_of_lt (fdiv_le (by omega) (by omega)) sr.2
      have hS : CDivB p.2 (shB p r) := divB (big_one sp.2) (by omega)
      have hS' : CDivB r.2 (shB p r) := divB (big_one sr.2) (by omega)
      have hT : CDivB (toB p r) (coB p r) := divB (big_sum sp.1 b2 sr.1 b1) (by omega)
      have hT' : CDivB r.2 (coB p r) := divB (big_one sr.2) (by omega)
      refine ⟨_, rfl, px, _, _, _, rfl, rfl, hx, at1 _ _, _, rfl, py, _, _, _, rfl, rfl, hy, at1 _ _, _, _, rfl, ?_⟩
      show _
      refine ⟨_, rfl, px, _, _, _, rfl, rfl, hx, at1 _ _, _, rfl, _, _, rfl, rfl, hS, ?_⟩
      refine ⟨_, rfl, px, _, _, _, rfl, rfl, hx, at0 _ _, _, rfl, py, _, _, _, rfl, rfl, hy, at1 _ _, _, rfl, _, _, rfl, rfl, hS', _, _, rfl, rfl, wm sp.1 b2, ?_⟩
      refine ⟨_, rfl, py, _, _, _, rfl, rfl, hy, at0 _ _, _, rfl, _, _, rfl, rfl, wm sr.1 b1, _, _, rfl, rfl, ?_⟩
      refine ⟨_, rfl, _, rfl, _, _, rfl, ?_⟩
      refine ⟨_, rfl, _, rfl, _, _, rfl, rfl, hT, _, rfl, _, rfl, py, _, _, _, rfl, rfl, hy, at1 _ _, _, rfl, _, _, rfl, rfl, hT', _, _, rfl, rfl, wm b1 b3, (by show 2 ≤ sizeLine; decide), fun z hz => ?_⟩
      exact q.new (add_lean np nr) hz
theorem d_multiplied {P : Program} {w : World} {K : PySem.W.Frag} {mg : Str → Option Value} {base : Heap} (R : Raw K mg "multiplied" s_multiplied) (D_lowest : Def P w K mg base "lowest" 2 ["field", "top", "bottom"] (spLow K)) : Def P w K mg base "multiplied" 3 ["field", "one", "other"] (spTwo K mulN) := by
  obtain ⟨f, fd, F, m⟩ := R
  obtain ⟨f_lowest, fd_lowest, G_lowest, m_lowest, k_lowest, b_lowest⟩ := D_lowest
  refine ⟨f, fd, F.ok sc_multiplied (fun vs H Q E h => ?_) (fun cdv A outer s H vs Q E hr h => ?_), m, F.kp, F.binds (ps := ["field", "one", "other"]) fun _ _ _ _ _ _ us hl => match us, hl with | [_, _, _], _ => rfl⟩
  · exact len_two h

  · obtain ⟨a, x, y, p, r, rfl, hf, ⟨px, rfl, hx⟩, ⟨py, rfl, hy⟩, ⟨np, sp⟩, ⟨nr, sr⟩, q⟩ := h
    refine ⟨_, (pss_cons (ps_if (pt_cmpR op_ne (pv 0) pe_int (nomark _)) (pss_one (ps_ret (pe_tup (pa_cons (pe_op op_mod (pe_op op_mulW (pe_ix ix_tup (pv 1) pe_int (fun _ _ => rfl)) (pe_ix ix_tup (pv 2) pe_int (fun _ _ => rfl))) (pv 0)) (pa_cons pe_int pa_nil))))) pss_nil) (pss_one (ps_ret (pe_call G_lowest (hr.mono (by omega)) (by rfl) m_lowest k_lowest b_lowest .nil pass0 (pa_cons (pv 0) (pa_cons (pe_op op_mulW (pe_ix ix_tup (pv 1) pe_int (fun _ _ => rfl)) (pe_ix ix_tup (pv 2) pe_int (fun _ _ => rfl))) (pa_cons (pe_op op_mulW (pe_ix ix_tup (pv 1) pe_int (fun _ _ => rfl)) (pe_ix ix_tup (pv 2) pe_int (fun _ _ => rfl))) pa_nil))))))), ?_⟩
    refine ⟨_, rfl, rfl, _, rfl, ite2 (fun e => ?_) (fun e => ?_)⟩
    · have e := neE e
      have h2 := hf.two e
      refine ⟨_, rfl, px, _, _, _, rfl, rfl, hx, at0 _ _, _, rfl, py, _, _, _, rfl, rfl, hy, at0 _ _, _, _, rfl, rfl, wm sp.1 sr.1, _, rfl, _, _, rfl, rfl, (by show (0 : Int) < a; omega), (by show 2 ≤ sizeLine; decide), fun z hz => ?_⟩
      exact q.new (by unfold mulN; rw [if_pos e]) hz
    · have e := neN e
      subst e
      have hp := np.den.1
      have hr' := nr.den.1
      refine ⟨_, rfl, _, rfl, px, _, _, _, rfl, rfl, hx, at0 _ _, _, rfl, py, _, _, _, rfl, rfl, hy, at0 _ _, _, _, rfl, rfl, wm sp.1 sr.1, ?_⟩
      refine ⟨_, rfl, px, _, _, _, rfl, rfl, hx, at1 _ _, _, rfl, py, _, _, _, rfl, rfl, hy, at1 _ _, _, _, rfl, rfl, wm sp.2 sr.2, ?_⟩
      have hm : p.2 * r.2 ≠ 0 := Int.mul_ne_zero (by omega) (by omega)
      refine ⟨0, _, _, rfl, hf, by rw [nouB0]; exact decide_eq_false hm, fun _ => ⟨big_mul sp.1 sr.1, big_mul sp.2 sr.2⟩, ?_⟩
      exact q
def spOne (K : PySem.W.Frag) (nz : Bool) (g : Int → Pr → Pr) : Sp := fun vs H Q _ => ∃ (f : Int) (x : V) (p : Pr), vs = [.int f, x] ∧ IsF f ∧ NumV K H x p ∧ Ok f p ∧ (nz = true → p.1 ≠ 0) ∧ RetN K H Q (g f p)
theorem len_one {K nz g vs H Q E} (h : spOne K nz g vs H Q E) : vs.length = (["field", "number"] : List Str).length := by
  obtain ⟨f, x, p, rfl, _⟩ := h
  rfl
theorem nou_num {f : Int} {p : Pr} (hf : IsF f) (h : IsN f p) (h0 : p.1 ≠ 0) : nouB f p.1 = false := by
  rcases h with ⟨rfl, _⟩ | ⟨hn, _, h1, h2⟩
  · rw [nouB0]
    exact decide_eq_false h0
  · rw [nouB1 hn, Int.emod_eq_of_lt h1 h2]
    exact decide_eq_false h0
/-! ## stalkweb.numbers, of what is good -/
def fieldsL : List Int := [0, 2, 3, 5, 7, 11, 13, 17, 19, 23, 29, 31, 37, 41, 43, 47, 53, 59, 61, 67, 71, 73, 79, 83, 89, 97]
def isFB (f : Int) : Bool := fieldsL.any fun x => decide (x = f)
theorem isFB_iff {f : Int} : isFB f = true ↔ IsF f := by
  unfold isFB
  rw [List.any_eq_true]
  constructor
  · rintro ⟨x, hx, e⟩
    have e := of_decide_eq_true e
    subst e
    have key : ∀ x ∈ fieldsL, x = 0 ∨ x.toNat ∈ primesN ∧ x = (x.toNat : Int) := by decide +kernel
    rcases key x hx with h | ⟨h1, h2⟩
    · exact .inl h
    · exact .inr ⟨_, h1, h2⟩
  · rintro (rfl | ⟨p, hp, rfl⟩)
    · exact ⟨0, by decide, by decide⟩
    · have key : ∀ p ∈ primesN, (p : Int) ∈ fieldsL := by decide +kernel
      exact ⟨_, key p hp, decide_eq_true rfl⟩
/-- FIELDS as it stands at the top -/
def FieldsAt (K : PySem.W.Frag) (mg : Str → Option Value) : Prop := ∃ a : Addr, mg "FIELDS" = some (.ref a) ∧ ∀ H : Hp, SqT K H a (fieldsL.map V.int)
theorem inV_int (f : Int) : ∀ l : List Int, inV (V.int f) (l.map V.int) = l.any fun x => decide (x = f)
  | [] => rfl
  | x :: l => by
    show (eqV (V.int x) (V.int f) || inV (V.int f) (l.map V.int)) = (decide (x = f) || l.any fun x => decide (x = f))
    rw [inV_int f l]
    congr 1
def spIsF : Sp := fun vs H Q _ => ∃ f : Int, vs = [.int f] ∧ Q (.bl (isFB f)) H
theorem len_is_field {vs H Q E} (h : spIsF vs H Q E) : vs.length = (["field"] : List Str).length := by
  obtain ⟨f, rfl, _⟩ := h
  rfl
theorem d_is_field {P : Program} {w : World} {K : PySem.W.Frag} {mg : Str → Option Value} {base : Heap} (R : Raw K mg "is_field" s_is_field) (TF : FieldsAt K mg)  : Def P w K mg base "is_field" 1 ["field"] (spIsF) := by
  obtain ⟨f, fd, F, m⟩ := R
  refine ⟨f, fd, F.ok sc_is_field (fun vs H Q E h => ?_) (fun cdv A outer s H vs Q E hr h => ?_), m, F.kp, F.binds (ps := ["field"]) fun _ _ _ _ _ _ us hl => match us, hl with | [_], _ => rfl⟩
  · exact len_is_field h

  · obtain ⟨a, rfl, q⟩ := h
    obtain ⟨a_FIELDS, m_FIELDS, sF⟩ := TF
    refine ⟨_, (pss_one (ps_ret (pe_cmpR op_in_seq (pv 0) (pe_glob (v := V.ref a_FIELDS) (by rfl) m_FIELDS rfl) (by rfl)))), ?_⟩
    refine ⟨_, rfl, a_FIELDS, _, rfl, .inr (sF H), rfl, by decide +kernel, ?_⟩
    show Q (V.bl (if false = true then !inV (V.int a) (fieldsL.map V.int) else inV (V.int a) (fieldsL.map V.int))) H
    rw [if_neg Bool.false_ne_true, inV_int]
    exact q
/-- whether it is a number of the field -/
def isNB (f : Int) (q : Pr) : Bool := if f = 0 then decide (1 ≤ q.2) && decide (((Nat.gcd q.1.natAbs q.2.natAbs : Nat) : Int) = 1) else decide (q.2 = 1) && (decide (0 ≤ q.1) && decide (q.1 < f))
theorem isNB_iff {f : Int} {q : Pr} : isNB f q = true ↔ IsN f q := by
  unfold isNB IsN
  by_cases h : f = 0
  · subst h
    rw [if_pos rfl, Bool.and_eq_true, decide_eq_true_iff, decide_eq_true_iff]
    constructor
    · rintro ⟨h1, h2⟩
      refine .inl ⟨rfl, h1, ?_⟩
      show Nat.gcd q.1.natAbs q.2.natAbs = 1
      omega
    · rintro (⟨_, h1, h2⟩ | ⟨h, _⟩)
      · have h2 : Nat.gcd q.1.natAbs q.2.natAbs = 1 := h2
        exact ⟨h1, by omega⟩
      · exact absurd rfl h
  · rw [if_neg h, Bool.and_eq_true, Bool.and_eq_true, decide_eq_true_iff, decide_eq_true_iff, decide_eq_true_iff]
    constructor
    · rintro ⟨h1, h2, h3⟩
      exact .inr ⟨h, h1, h2, h3⟩
    · rintro (⟨h', _⟩ | ⟨_, h1, h2, h3⟩)
      · exact absurd h' h
      · exact ⟨h1, h2, h3⟩
def spFits (K : PySem.W.Frag) : Sp := fun vs H Q _ => ∃ (f : Int) (x : V) (p : Pr), vs = [.int f, x] ∧ NumV K H x p ∧ Q (.bl (isNB f p)) H
theorem len_fits {K vs H Q E} (h : spFits K vs H Q E) : vs.length = (["field", "number"] : List Str).length := by
  obtain ⟨f, x, p, rfl, _⟩ := h
  rfl
theorem d_fits {P : Program} {w : World} {K : PySem.W.Frag} {mg : Str → Option Value} {base : Heap} (R : Raw K mg "fits" s_fits) (B : Bn mg)  : Def P w K mg base "fits" 1 ["field", "number"] (spFits K) := by
  obtain ⟨f, fd, F, m⟩ := R
  refine ⟨f, fd, F.ok sc_fits (fun vs H Q E h => ?_) (fun cdv A outer s H vs Q E hr h => ?_), m, F.kp, F.binds (ps := ["field", "number"]) fun _ _ _ _ _ _ us hl => match us, hl with | [_, _], _ => rfl⟩
  · exact len_fits h

  · obtain ⟨a, x, p, rfl, ⟨px, rfl, hx⟩, q⟩ := h
    refine ⟨_, (pss_cons (ps_asg (pv 1) (pg_tup (by rfl) (pgs_cons (pg_name (i := 2) sc_fits.nd rfl (Or.inl rfl)) (pgs_cons (pg_name (i := 3) sc_fits.nd rfl (Or.inl rfl)) pgs_nil)))) (pss_cons (ps_if (pt_cmpR op_eq (pv 0) pe_int (nomark _)) (pss_one (ps_ret (pe_and (pe_cmpR op_ge (pv 3) pe_int (nomark _)) (pe_one (pe_cmpR op_eq (pe_callBfun cr_gcd (by rfl) B.gcd (pa_cons (pv 2) (pa_cons (pv 3) pa_nil))) pe_int (nomark _)))))) pss_nil) (pss_one (ps_ret (pe_and (pe_cmpR op_eq (pv 3) pe_int (nomark _)) (pe_one (pe_chain op_le op_lt pe_int (pv 2) (pv 0)))))))), ?_⟩
    refine ⟨_, rfl, px, _, rfl, hx, rfl, _, _, rfl, _, _, rfl, rfl, ?_⟩
    refine ⟨_, rfl, rfl, _, rfl, ite2 (fun e => ?_) (fun e => ?_)⟩
    · have e := eqI e
      subst e
      have q : Q (.bl (decide (1 ≤ p.2) && decide (((Nat.gcd p.1.natAbs p.2.natAbs : Nat) : Int) = 1))) H := q
      refine ⟨_, rfl, _, _, rfl, rfl, _, rfl, ite2 (fun e => ?_) (fun e => ?_)⟩
      · refine ⟨_, rfl, _, rfl, _, _, rfl, rfl, ?_⟩
        rw [decI]
        rw [e, Bool.true_and] at q
        exact q
      · rw [eq_false_of_ne_true e, Bool.false_and] at q
        exact q
    · have e := neI e
      have q : Q (.bl (decide (p.2 = 1) && (decide (0 ≤ p.1) && decide (p.1 < a)))) H := by
        have q := q
        unfold isNB at q
        rw [if_neg e] at q
        exact q
      refine ⟨_, rfl, rfl, _, rfl, ?_⟩
      rw [decI]
      refine ite2 (fun e => ?_) (fun e => ?_)
      · rw [e, Bool.true_and] at q
        refine ⟨_, rfl, _, _, rfl, rfl, _, rfl, ite2 (fun e => ?_) (fun e => ?_)⟩
        · rw [e, Bool.true_and] at q
          exact ⟨_, rfl, _, _, rfl, rfl, q⟩
        · rw [eq_false_of_ne_true e, Bool.false_and] at q
          exact q
      · rw [eq_false_of_ne_true e, Bool.false_and] at q
        exact q
/-- values that are numbers -/
def NumsV (K : PySem.W.Frag) (H : Hp) (vs : List V) (qs : List Pr) : Prop := Paired (NumV K H) vs qs
theorem NumsV.same {K : PySem.W.Frag} {H H' : Hp} (e : Same H H') : ∀ {vs : List V} {qs : List Pr}, NumsV K H vs qs → NumsV K H' vs qs
  | _, _, .nil => .nil
  | _, _, .cons h t => .cons (h.same e) (NumsV.same e t)
theorem NumsV.get {K : PySem.W.Frag} {H : Hp} : ∀ {vs : List V} {qs : List Pr} {i : Nat} {x : V}, NumsV K H vs qs → vs[i]? = some x → ∃ q, qs[i]? = some q ∧ NumV K H x q
  | _, _, _, _, .nil, e => by simp at e
  | _, _, 0, _, .cons r _, e => by simp at e; subst e; exact ⟨_, rfl, r⟩
  | _, _, i + 1, x, .cons _ t, e => by
    obtain ⟨u, h1, h2⟩ := NumsV.get (i := i) (x := x) t (by simpa using e)
    exact ⟨u, by simpa using h1, h2⟩

/-! ## stalkweb.elimination -/
open Lin
theorem dp_num {K : PySem.W.Frag} {H : Hp} {v : V} {q : Pr} (h : NumV K H v q) : Dp K H v (.tuple [.int q.1, .int q.2]) := by
  obtain ⟨p, rfl, h⟩ := h
  exact .tup h (.cons (.int _) (.cons (.int _) .nil))
theorem eqv_pr (p q : Pr) : PyData.eqv (.tuple [.int p.1, .int p.2]) (.tuple [.int q.1, .int q.2]) = decide (p = q) := by
  obtain ⟨a, b⟩ := p
  obtain ⟨c, d⟩ := q
  show ((a == c) && ((b == d) && true)) = decide ((a, b) = (c, d))
  by_cases h : a = c
  · by_cases h2 : b = d
    · subst h; subst h2; simp
    · simp [h2]
  · simp [h]
theorem eq_val {K : PySem.W.Frag} {H : Hp} {x y : V} {p q : Pr} {Q : VK} (hx : NumV K H x p) (hy : NumV K H y q) (k : Q (.bl (decide (p = q))) H) : rEqD K x y H Q :=
  ⟨_, _, dp_num hx, dp_num hy, rfl, rfl, by rw [eqv_pr]; exact k⟩
theorem ne_val {K : PySem.W.Frag} {H : Hp} {x y : V} {p q : Pr} {Q : VK} (hx : NumV K H x p) (hy : NumV K H y q) (k : Q (.bl (!decide (p = q))) H) : rNeD K x y H Q :=
  ⟨_, _, dp_num hx, dp_num hy, rfl, rfl, by rw [eqv_pr]; exact k⟩
theorem tC_go {v : V} {σ : L2.St} {H : Hp} {Q : VK} (h : Q v H) : tC v σ H Q := h
/-- NOUGHT as it stands at the top -/
def NoughtAt (K : PySem.W.Frag) (mg : Str → Option Value) : Prop := ∃ a : Addr, mg "NOUGHT" = some (.ref a) ∧ ∀ H : Hp, SqT K H a [.int 0, .int 1]
theorem SqT.put {K : PySem.W.Frag} {H : Hp} {D a : Addr} {xs ys : List V} {o : HO} (h : SqT K H a ys) (hD : H D = some (.lst xs)) : SqT K (upd H D o) a ys := by
  have ne : ∀ u, H a = some u → (∀ z, u ≠ .lst z) → a ≠ D := fun u hu hn e => by
    rw [e, hD] at hu
    exact hn _ (Option.some.inj hu).symm
  rcases h with (h | ⟨o', h⟩) | h
  · refine .inl (.inl ?_)
    rw [upd_ne (ne _ h fun z e => by cases e)]
    exact h
  · refine .inl (.inr ⟨o', ?_⟩)
    rw [upd_ne (ne _ h fun z e => by cases e)]
    exact h
  · exact .inr h
theorem NumV.putL {K : PySem.W.Frag} {H : Hp} {D : Addr} {xs : List V} {o : HO} {v : V} {q : Pr} (h : NumV K H v q) (hD : H D = some (.lst xs)) : NumV K (upd H D o) v q := by
  obtain ⟨p, h1, h2⟩ := h
  exact ⟨p, h1, SqT.put h2 hD⟩
theorem NumsV.snoc {K : PySem.W.Frag} {H : Hp} : ∀ {vs : List V} {qs : List Pr} {v : V} {q : Pr}, NumsV K H vs qs → NumV K H v q → NumsV K H (vs ++ [v]) (qs ++ [q])
  | _, _, _, _, .nil, h => .cons h .nil
  | _, _, _, _, .cons r t, h => .cons r (NumsV.snoc t h)
theorem NumsV.map {K : PySem.W.Frag} {H H' : Hp} (g : ∀ v q, NumV K H v q → NumV K H' v q) : ∀ {vs : List V} {qs : List Pr}, NumsV K H vs qs → NumsV K H' vs qs
  | _, _, .nil => .nil
  | _, _, .cons r t => .cons (g _ _ r) (NumsV.map g t)
theorem Sq.same {K : PySem.W.Frag} {H H' : Hp} {t : Bool} {a : Addr} {xs : List V} (e : Same H H') (h : ZM.Sq t K H a xs) : ZM.Sq t K H' a xs := by
  cases t with
  | true => exact Same.seqT e h
  | false => exact e.seq h
theorem ix_sq {K : PySem.W.Frag} {H : Hp} {t : Bool} {a : Addr} {xs : List V} {i : Int} {v : V} {Q : VK} (h : ZM.Sq t K H a xs) (hv : atI xs i = some v) (k : Q v H) : rIx K (.ref a) (.int i) H Q := by
  cases t with
  | true => exact .inr (.inl ⟨a, xs, i, v, rfl, rfl, h, hv, k⟩)
  | false => exact .inl ⟨a, xs, i, v, rfl, rfl, h, hv, k⟩
/-- a row of numbers, a list or a tuple -/
def RowV (K : PySem.W.Frag) (H : Hp) {f : Int} (F : Fd f) (v : V) (l : List F.F) : Prop := ∃ (t : Bool) (a : Addr) (xs : List V), v = .ref a ∧ ZM.Sq t K H a xs ∧ NumsV K H xs (l.map F.enc)
section
variable {K : PySem.W.Frag} {H H' : Hp} {f : Int} {F : Fd f} {v : V} {l m : List F.F}
theorem RowV.same (h : RowV K H F v l) (e : Same H H') : RowV K H' F v l := by
  obtain ⟨t, a, xs, h1, h2, h3⟩ := h
  exact ⟨t, a, xs, h1, Sq.same e h2, NumsV.same e h3⟩
theorem NumsV.len {vs : List V} {qs : List Pr} (h : NumsV K H vs qs) : vs.length = qs.length := Paired.length h
theorem NumsV.pick {vs : List V} (h : NumsV K H vs (l.map F.enc)) {i : Nat} (hi : i < l.length) : letI := F.fld; ∃ x, vs[i]? = some x ∧ NumV K H x (F.enc (vec l i)) := by
  letI := F.fld
  letI := F.dec
  have hl := NumsV.len h
  rw [List.length_map] at hl
  have e : vs[i]? = some vs[i] := List.getElem?_eq_getElem (by omega)
  obtain ⟨q, h1, h2⟩ := NumsV.get h e
  rw [List.getElem?_map, vec_lt hi] at h1
  cases h1
  exact ⟨_, e, h2⟩
theorem enc_zero {x : F.F} : letI := F.fld; F.enc x = (0, 1) ↔ x = 0 := by
  letI := F.fld
  constructor
  · intro e
    apply F.inj
    rw [e, F.zero]
  · intro e
    rw [e]
    exact F.zero
end
/-- a new object -/
def Fr (H : Hp) (v : V) : Prop := ∃ b : Addr, v = .ref b ∧ H b = none
/-- a number that goes through sums and products -/
def Sz6 {f : Int} (F : Fd f) (x : F.F) : Prop := Sm 6700 (F.enc x)
def spSwept (K : PySem.W.Frag) : Sp := fun vs H Q _ => ∃ (f : Int) (row by' : V) (p : Nat) (F : Fd f) (l m : List F.F), vs = [.int f, row, by', .int (p : Nat)] ∧ IsF f ∧ RowV K H F row l ∧ RowV K H F by' m ∧ l.length = m.length ∧ p < l.length ∧ l.length ≤ 1000 ∧
  (∀ j, letI := F.fld; Sz6 F (vec l j)) ∧ (∀ j, letI := F.fld; Sz6 F (vec m j)) ∧ (letI := F.fld; Sz6 F (-(vec l p))) ∧ (∀ j, letI := F.fld; Sz6 F ((-(vec l p)) * vec m j)) ∧ ∀ H' v, Same H H' → (letI := F.fld; letI := F.dec; RowV K H' F v (swp l m p)) → ((v = row ∧ (letI := F.fld; letI := F.dec; swp l m p = l)) ∨ Fr H v) → Q v H'
theorem len_swept {K vs H Q E} (h : spSwept K vs H Q E) : vs.length = (["field", "row", "by", "place"] : List Str).length := by
  obtain ⟨f, row, by', p, F, l, m, rfl, _⟩ := h
  rfl
open Lin
theorem enc_top {f : Int} {F : Fd f} {x : F.F} (hx : letI := F.fld; x ≠ 0) : (F.enc x).1 ≠ 0 := by
  letI := F.fld
  intro e
  apply hx
  apply F.inj
  rw [F.zero]
  rcases F.num x with ⟨h0, h1, h2⟩ | ⟨_, h1, _⟩
  · have h2 : Nat.gcd (F.enc x).1.natAbs (F.enc x).2.natAbs = 1 := h2
    rw [e] at h2
    have h3 : (F.enc x).2.natAbs = 1 := by simpa using h2
    exact Prod.ext e (by show (F.enc x).2 = 1; omega)
  · exact Prod.ext e h1
def spScaled (K : PySem.W.Frag) : Sp := fun vs H Q _ => ∃ (f : Int) (row : V) (p : Nat) (F : Fd f) (l : List F.F), vs = [.int f, row, .int (p : Nat)] ∧ IsF f ∧ RowV K H F row l ∧ p < l.length ∧ l.length ≤ 1000 ∧ (letI := F.fld; vec l p ≠ 0) ∧
  (∀ j, letI := F.fld; Sz6 F (vec l j)) ∧ (letI := F.fld; Sz6 F ((vec l p)⁻¹)) ∧ ∀ H' v, Same H H' → (letI := F.fld; RowV K H' F v (scl l p)) → Fr H v → Q v H'
theorem len_scaled {K vs H Q E} (h : spScaled K vs H Q E) : vs.length = (["field", "row", "place"] : List Str).length := by
  obtain ⟨f, row, p, F, l, rfl, _⟩ := h
  rfl
/-! ### rows -/
def RowsV (K : PySem.W.Frag) (H : Hp) {f : Int} (F : Fd f) (xs : List V) (L : List (List F.F)) : Prop := Paired (fun v l => RowV K H F v l) xs L
section
variable {K : PySem.W.Frag} {H H' : Hp} {f : Int} {F : Fd f}
theorem RowsV.same (e : Same H H') : ∀ {xs : List V} {L : List (List F.F)}, RowsV K H F xs L → RowsV K H' F xs L
  | _, _, .nil => .nil
  | _, _, .cons h t => .cons (h.same e) (RowsV.same e t)
theorem RowsV.len {xs : List V} {L : List (List F.F)} (h : RowsV K H F xs L) : xs.length = L.length := Paired.length h
theorem RowsV.pick : ∀ {xs : List V} {L : List (List F.F)} {i : Nat} {x : V}, RowsV K H F xs L → xs[i]? = some x → ∃ l, L[i]? = some l ∧ RowV K H F x l
  | _, _, i, x, .nil, e => by simp at e
  | _, _, 0, x, .cons h t, e => by
    have e := Option.some.inj ((List.getElem?_cons_zero ..).symm.trans e)
    subst e
    exact ⟨_, rfl, h⟩
  | _, _, i + 1, x, .cons h t, e => by
    obtain ⟨u, h1, h2⟩ := RowsV.pick (i := i) (x := x) t (by simpa using e)
    exact ⟨u, by simpa using h1, h2⟩
end
theorem fst_eq {F : Type} [Lean.Grind.Field F] [DecidableEq F] {rows : List (List F)} {p i : Nat} {r : List F} (hr : rows[i]? = some r) (h : vec r p ≠ 0) (h0 : ∀ k, k < i → ∀ x, rows[k]? = some x → vec x p = 0) : fst rows p = some i := by
  have hi := (List.getElem?_eq_some_iff.mp hr).1
  have e : rows[i] = r := (List.getElem?_eq_some_iff.mp hr).2
  refine List.findIdx?_eq_some_iff_getElem.mpr ⟨hi, ?_, fun j hj => ?_⟩
  · rw [e]
    exact decide_eq_true h
  · have := h0 j hj rows[j] (List.getElem?_eq_getElem (by omega))
    simp [this]
theorem fst_nil {F : Type} [Lean.Grind.Field F] [DecidableEq F] {rows : List (List F)} {p : Nat} (h0 : ∀ k, k < rows.length → ∀ x, rows[k]? = some x → vec x p = 0) : fst rows p = none := by
  refine List.findIdx?_eq_none_iff.mpr fun x hx => ?_
  obtain ⟨k, hk, e⟩ := List.getElem_of_mem hx
  have := h0 k hk x (by rw [List.getElem?_eq_getElem hk, e])
  simp [this]
def optV : Option Nat → V
  | none => .non
  | some i => .int (i : Nat)
def spFirst (K : PySem.W.Frag) : Sp := fun vs H Q _ => ∃ (f : Int) (a : Addr) (xs : List V) (p : Nat) (F : Fd f) (L : List (List F.F)), vs = [.ref a, .int (p : Nat)] ∧ SqL K H a xs ∧ RowsV K H F xs L ∧ (∀ l ∈ L, p < l.length) ∧
  ∀ H', Same H H' → Q (optV (letI := F.fld; letI := F.dec; fst L p)) H'
theorem len_first_at {K vs H Q E} (h : spFirst K vs H Q E) : vs.length = (["rows", "place"] : List Str).length := by
  obtain ⟨f, a, xs, p, F, L, rfl, _⟩ := h
  rfl
open Lin
/-- all but Ds is kept -/
def KeepL (Ds : List Addr) (H H' : Hp) : Prop := ∀ b o, b ∉ Ds → H b = some o → H' b = some o
theorem KeepL.refl (Ds : List Addr) (H : Hp) : KeepL Ds H H := fun _ _ _ e => e
theorem KeepL.trans {Ds : List Addr} {H H1 H2 : Hp} (a : KeepL Ds H H1) (b : KeepL Ds H1 H2) : KeepL Ds H H2 := fun c o n e => b c o n (a c o n e)
theorem Same.k1 {Ds : List Addr} {H H' : Hp} (s : Same H H') : KeepL Ds H H' := fun b o _ e => s b o e
theorem k1_put {Ds : List Addr} {D : Addr} {H : Hp} {o : HO} (h : D ∈ Ds) : KeepL Ds H (upd H D o) := fun b u n e => by
  rw [upd_ne (fun z => n (by rw [z]; exact h))]
  exact e
/-- lists, or not yet there -/
def LstAt (H : Hp) (Ds : List Addr) : Prop := ∀ D ∈ Ds, ∀ o, H D = some o → ∃ zs, o = .lst zs
theorem LstAt.one {H : Hp} {D : Addr} {zs : List V} (h : H D = some (.lst zs)) : LstAt H [D] := fun b hb o ho => by
  rw [List.mem_singleton.mp hb, h] at ho
  cases ho
  exact ⟨_, rfl⟩
theorem LstAt.two {H : Hp} {D D2 : Addr} {zs ys : List V} (h2 : H D2 = some (.lst ys)) (h : H D = some (.lst zs)) : LstAt H [D2, D] := fun b hb o ho => by
  rcases List.mem_cons.mp hb with e | hb
  · rw [e, h2] at ho
    cases ho
    exact ⟨_, rfl⟩
  · rw [List.mem_singleton.mp hb, h] at ho
    cases ho
    exact ⟨_, rfl⟩
theorem SqT.k1 {K : PySem.W.Frag} {H H' : Hp} {Ds : List Addr} {a : Addr} {ys : List V} (h : SqT K H a ys) (hD : LstAt H Ds) (k : KeepL Ds H H') : SqT K H' a ys := by
  have ne : ∀ u, H a = some u → (∀ z, u ≠ .lst z) → a ∉ Ds := fun u hu hn e => by
    obtain ⟨zs, hz⟩ := hD a e u hu
    exact hn zs hz
  rcases h with (h | ⟨o', h⟩) | h
  · exact .inl (.inl (k _ _ (ne _ h fun z e => by cases e) h))
  · exact .inl (.inr ⟨o', k _ _ (ne _ h fun z e => by cases e) h⟩)
  · exact .inr h
theorem SqL.k1 {K : PySem.W.Frag} {H H' : Hp} {Ds : List Addr} {a : Addr} {ys : List V} (h : SqL K H a ys) (ne : H a = none ∨ a ∉ Ds) (k : KeepL Ds H H') : SqL K H' a ys := by
  have n : ∀ u, H a = some u → a ∉ Ds := fun u hu => by
    rcases ne with e | e
    · rw [e] at hu
      cases hu
    · exact e
  rcases h with (h | ⟨o', h⟩) | h
  · exact .inl (.inl (k _ _ (n _ h) h))
  · exact .inl (.inr ⟨o', k _ _ (n _ h) h⟩)
  · exact .inr h
theorem NumV.k1 {K : PySem.W.Frag} {H H' : Hp} {Ds : List Addr} {v : V} {q : Pr} (h : NumV K H v q) (hD : LstAt H Ds) (k : KeepL Ds H H') : NumV K H' v q := by
  obtain ⟨p, h1, h2⟩ := h
  exact ⟨p, h1, SqT.k1 h2 hD k⟩
/-- a row, whatever becomes of Ds -/
def RowD (K : PySem.W.Frag) (H : Hp) {f : Int} (F : Fd f) (Ds : List Addr) (v : V) (l : List F.F) : Prop := ∀ H', KeepL Ds H H' → RowV K H' F v l
section
variable {K : PySem.W.Frag} {H H' : Hp} {f : Int} {F : Fd f} {Ds : List Addr} {v : V} {l : List F.F}
theorem RowD.go (h : RowD K H F Ds v l) (k : KeepL Ds H H') : RowD K H' F Ds v l := fun H2 k2 => h H2 (k.trans k2)
theorem RowD.now (h : RowD K H F Ds v l) : RowV K H F v l := h H (KeepL.refl Ds H)
theorem RowD.mk (h : RowV K H F v l) (hv : ∀ b, v = .ref b → H b = none ∨ b ∉ Ds) (hD : LstAt H Ds) : RowD K H F Ds v l := by
  intro H2 k
  obtain ⟨t, a, xs, rfl, hx, hn⟩ := h
  refine ⟨t, a, xs, rfl, ?_, NumsV.map (fun v q h => h.k1 hD k) hn⟩
  cases t with
  | true => exact SqT.k1 hx hD k
  | false => exact SqL.k1 hx (hv a rfl) k
/-- one list more that is not yet there -/
theorem RowD.more {D2 : Addr} (h : RowD K H F Ds v l) (n : H D2 = none) : RowD K H F (D2 :: Ds) v l := fun H2 k => h H2 fun b o nb e => k b o (fun hm => by
  rcases List.mem_cons.mp hm with z | z
  · rw [z, n] at e
    cases e
  · exact nb z) e
theorem RowD.less {Ds' : List Addr} (h : RowD K H F Ds v l) (s : ∀ b ∈ Ds', b ∈ Ds) : RowD K H F Ds' v l := fun H2 k => h H2 fun b o nb e => k b o (fun hm => nb (s b hm)) e
def RowsD (K : PySem.W.Frag) (H : Hp) {f : Int} (F : Fd f) (Ds : List Addr) (xs : List V) (L : List (List F.F)) : Prop := Paired (fun v l => RowD K H F Ds v l) xs L
theorem RowsD.map {Ds' : List Addr} (g : ∀ v l, RowD K H F Ds v l → RowD K H' F Ds' v l) : ∀ {xs : List V} {L : List (List F.F)}, RowsD K H F Ds xs L → RowsD K H' F Ds' xs L
  | _, _, .nil => .nil
  | _, _, .cons h t => .cons (g _ _ h) (RowsD.map g t)
theorem RowsD.go (k : KeepL Ds H H') {xs : List V} {L : List (List F.F)} (h : RowsD K H F Ds xs L) : RowsD K H' F Ds xs L := RowsD.map (fun _ _ h => h.go k) h
theorem RowsD.rows : ∀ {xs : List V} {L : List (List F.F)}, RowsD K H F Ds xs L → RowsV K H F xs L
  | _, _, .nil => .nil
  | _, _, .cons h t => .cons h.now (RowsD.rows t)
theorem RowsD.of {D : Addr} (hD : H D = none) : ∀ {xs : List V} {L : List (List F.F)}, RowsV K H F xs L → RowsD K H F [D] xs L
  | _, _, .nil => .nil
  | _, _, .cons h t => .cons (RowD.mk h (fun b _ => by
      by_cases e : b = D
      · exact .inl (by rw [e]; exact hD)
      · exact .inr (fun z => e (List.mem_singleton.mp z))) (fun b hb o ho => by
        rw [List.mem_singleton.mp hb, hD] at ho
        cases ho)) (RowsD.of hD t)
theorem RowsD.len {xs : List V} {L : List (List F.F)} (h : RowsD K H F Ds xs L) : xs.length = L.length := Paired.length h
theorem RowsD.pick : ∀ {xs : List V} {L : List (List F.F)} {i : Nat} {l : List F.F}, RowsD K H F Ds xs L → L[i]? = some l → ∃ x, xs[i]? = some x ∧ RowD K H F Ds x l
  | _, _, i, x, .nil, e => by simp at e
  | _, _, 0, x, .cons h t, e => by
    have e := Option.some.inj ((List.getElem?_cons_zero ..).symm.trans e)
    subst e
    exact ⟨_, rfl, h⟩
  | _, _, i + 1, x, .cons h t, e => by
    obtain ⟨u, h1, h2⟩ := RowsD.pick (i := i) (l := x) t (by simpa using e)
    exact ⟨u, by simpa using h1, h2⟩
theorem RowsD.take : ∀ {xs : List V} {L : List (List F.F)} (i : Nat), RowsD K H F Ds xs L → RowsD K H F Ds (xs.take i) (L.take i)
  | _, _, 0, _ => by
    rw [List.take_zero, List.take_zero]
    exact .nil
  | _, _, i + 1, .nil => .nil
  | _, _, i + 1, .cons h t => .cons h (RowsD.take i t)
theorem RowsD.drop : ∀ {xs : List V} {L : List (List F.F)} (i : Nat), RowsD K H F Ds xs L → RowsD K H F Ds (xs.drop i) (L.drop i)
  | _, _, 0, h => h
  | _, _, i + 1, .nil => .nil
  | _, _, i + 1, .cons h t => RowsD.drop i t
theorem RowsD.app : ∀ {xs ys : List V} {L M : List (List F.F)}, RowsD K H F Ds xs L → RowsD K H F Ds ys M → RowsD K H F Ds (xs ++ ys) (L ++ M)
  | _, _, _, _, .nil, h => h
  | _, _, _, _, .cons h t, g => .cons h (RowsD.app t g)
theorem RowsD.snoc {xs : List V} {L : List (List F.F)} (h : RowsD K H F Ds xs L) (g : RowD K H F Ds v l) : RowsD K H F Ds (xs ++ [v]) (L ++ [l]) := RowsD.app h (.cons g .nil)
/-- pairs of a lead and a row -/
def PairsD (K : PySem.W.Frag) (H : Hp) {f : Int} (F : Fd f) (Ds : List Addr) (xs : List V) (A : List (Ll F.F)) : Prop := Paired (fun v (a : Ll F.F) => ∃ t rv, v = .ref t ∧ SqT K H t [.int (a.1 : Nat), rv] ∧ RowD K H F Ds rv a.2) xs A
theorem PairsD.go (hD : LstAt H Ds) (k : KeepL Ds H H') : ∀ {xs : List V} {A : List (Ll F.F)}, PairsD K H F Ds xs A → PairsD K H' F Ds xs A
  | _, _, .nil => .nil
  | _, _, .cons ⟨t, rv, e, h1, h2⟩ r => .cons ⟨t, rv, e, SqT.k1 h1 hD k, h2.go k⟩ (PairsD.go hD k r)
theorem PairsD.more {D2 : Addr} (n : H D2 = none) : ∀ {xs : List V} {A : List (Ll F.F)}, PairsD K H F Ds xs A → PairsD K H F (D2 :: Ds) xs A
  | _, _, .nil => .nil
  | _, _, .cons ⟨t, rv, e, h1, h2⟩ r => .cons ⟨t, rv, e, h1, h2.more n⟩ (PairsD.more n r)
theorem PairsD.less {Ds' : List Addr} (s : ∀ b ∈ Ds', b ∈ Ds) : ∀ {xs : List V} {A : List (Ll F.F)}, PairsD K H F Ds xs A → PairsD K H F Ds' xs A
  | _, _, .nil => .nil
  | _, _, .cons ⟨t, rv, e, h1, h2⟩ r => .cons ⟨t, rv, e, h1, h2.less s⟩ (PairsD.less s r)
theorem PairsD.snoc {t : Addr} {rv : V} {a : Ll F.F} (h1 : SqT K H t [.int (a.1 : Nat), rv]) (h2 : RowD K H F Ds rv a.2) : ∀ {xs : List V} {A : List (Ll F.F)}, PairsD K H F Ds xs A → PairsD K H F Ds (xs ++ [.ref t]) (A ++ [a])
  | _, _, .nil => .cons ⟨t, rv, rfl, h1, h2⟩ .nil
  | _, _, .cons g r => .cons g (PairsD.snoc h1 h2 r)
theorem PairsD.len {xs : List V} {A : List (Ll F.F)} (h : PairsD K H F Ds xs A) : xs.length = A.length := Paired.length h
end
theorem gName_go3 {i : Nat} {v : V} {σ : L2.St} {H : Hp} {Q : L2.St → Hp → Prop} (h : Q (σ.set i (some v)) H) : gName i v σ H Q := h
theorem nx_go3 {t : TS} {D : Ends} {rt : VK} {bk ct : L2.St → Hp → Prop} {σ : L2.St} {H : Hp} (h : t D σ H) : Ends.nx { nx := t D, rt := rt, bk := bk, ct := ct } σ H := h
theorem cutV_to (xs : List V) (i : Nat) : cutV xs none (some (i : Int)) = xs.take i := by
  unfold cutV
  rw [HT.sIx_nat, HT.sIx_none, List.drop_zero, Nat.sub_zero]
  rcases Nat.le_total i xs.length with h | h
  · rw [Nat.min_eq_left h]
  · rw [Nat.min_eq_right h, List.take_of_length_le (Nat.le_refl _), List.take_of_length_le h]
theorem cutV_from (xs : List V) (i : Nat) : cutV xs (some (i : Int)) none = xs.drop i := by
  unfold cutV
  rw [HT.sIx_nat, HT.sIx_none]
  rcases Nat.le_total i xs.length with h | h
  · rw [Nat.min_eq_left h, List.take_of_length_le (by rw [List.length_drop]; omega)]
  · rw [Nat.min_eq_right h, Nat.sub_self, List.take_zero, List.drop_of_length_le h]
theorem isN_sm6 {f : Int} {q : Pr} (hf : IsF f) (h0 : f ≠ 0) (h : IsN f q) : Sm 7 q := by
  have hb := hf.two h0
  rcases h with ⟨e, _⟩ | ⟨_, h1, h2, h3⟩
  · exact absurd e h0
  · refine ⟨?_, ?_⟩
    · show _ < 128
      omega
    · rw [h1]
      decide
theorem sz_neg {f : Int} {F : Fd f} (hf : IsF f) {n : Nat} (h7 : 7 ≤ n) {x : F.F} (h : Sm n (F.enc x)) : letI := F.fld; Sm n (F.enc (-x)) := by
  letI := F.fld
  by_cases h0 : f = 0
  · subst h0
    rw [F.neg]
    refine ⟨?_, h.2⟩
    show (-(F.enc x).1).natAbs < _
    rw [Int.natAbs_neg]
    exact h.1
  · exact (isN_sm6 hf h0 (F.num _)).mono h7
theorem sz_mul {f : Int} {F : Fd f} (hf : IsF f) {n m : Nat} (h7 : 7 ≤ n) {x y : F.F} (hx : Sm n (F.enc x)) (hy : Sm m (F.enc y)) : letI := F.fld; Sm (n + m) (F.enc (x * y)) := by
  letI := F.fld
  by_cases h0 : f = 0
  · subst h0
    rw [F.mul]
    have nx := (F.num x).den.1
    have ny := (F.num y).den.1
    have h := low0_le (t := (F.enc x).1 * (F.enc y).1) (b := (F.enc x).2 * (F.enc y).2) (Int.mul_ne_zero (by omega) (by omega))
    exact ⟨Nat.lt_of_le_of_lt h.1 (mul_small hx.1 hy.1), Nat.lt_of_le_of_lt h.2 (mul_small hx.2 hy.2)⟩
  · exact (isN_sm6 hf h0 (F.num _)).mono (by omega)
theorem sz_inv {f : Int} {F : Fd f} (hf : IsF f) {n : Nat} (h7 : 7 ≤ n) {x : F.F} (h : Sm n (F.enc x)) (hx : letI := F.fld; x ≠ 0) : letI := F.fld; Sm n (F.enc (x⁻¹)) := by
  letI := F.fld
  by_cases h0 : f = 0
  · subst h0
    rw [F.inv x hx]
    have h2 := low0_le (t := (F.enc x).2) (b := (F.enc x).1) (enc_top hx)
    exact ⟨Nat.lt_of_le_of_lt h2.1 h.2, Nat.lt_of_le_of_lt h2.2 h.1⟩
  · exact (isN_sm6 hf h0 (F.num _)).mono h7
/-- rows on their way: at each place what holds of those that are left -/
structure WayOk {f : Int} (F : Fd f) (W m : Nat) (G : Nat → List (List F.F) → Prop) : Prop where
  ht : letI := F.fld; ∀ p left, G p left → ∀ y ∈ left, Ht F m (vec y)
  none : letI := F.fld; letI := F.dec; ∀ p left, G p left → Left W p left → fst left p = none → G (p + 1) left
  some : letI := F.fld; letI := F.dec; ∀ p left i r, G p left → Left W p left → fst left p = some i → left[i]? = some r → vec r p ≠ 0 → G (p + 1) ((cut left i).map fun x => swp x (scl r p) p)
def spStepped (K : PySem.W.Frag) : Sp := fun vs H Q _ => ∃ (f : Int) (r : Addr) (xs : List V) (w W m : Nat) (F : Fd f) (L : List (List F.F)) (G : Nat → List (List F.F) → Prop), vs = [.int f, .ref r, .int (w : Nat)] ∧ IsF f ∧ SqL K H r xs ∧ RowsV K H F xs L ∧ (∀ l ∈ L, l.length = W) ∧ w ≤ W ∧ W ≤ 500 ∧ L.length ≤ 500 ∧ 7 ≤ m ∧ m ≤ 3300 ∧ WayOk F W m G ∧ G 0 L ∧
  ∀ H' D ys, Same H H' → H D = none → H' D = some (.lst ys) → (letI := F.fld; letI := F.dec; PairsD K H' F [D] ys (steps (List.range' 0 w) L)) → Q (.ref D) H'
theorem len_stepped {K vs H Q E} (h : spStepped K vs H Q E) : vs.length = (["field", "rows", "width"] : List Str).length := by
  obtain ⟨f, r, xs, w, W, m, F, L, G, rfl, _⟩ := h
  rfl

open Lin
/-- a row that is a tuple -/
def RowT (K : PySem.W.Frag) (H : Hp) {f : Int} (F : Fd f) (v : V) (l : List F.F) : Prop := ∃ (a : Addr) (xs : List V), v = .ref a ∧ SqT K H a xs ∧ NumsV K H xs (l.map F.enc)
def PairsT (K : PySem.W.Frag) (H : Hp) {f : Int} (F : Fd f) (xs : List V) (A : List (Ll F.F)) : Prop := Paired (fun v (a : Ll F.F) => ∃ t rv, v = .ref t ∧ SqT K H t [.int (a.1 : Nat), rv] ∧ RowT K H F rv a.2) xs A
section
variable {K : PySem.W.Frag} {H H' : Hp} {f : Int} {F : Fd f} {Ds : List Addr} {v : V} {l : List F.F}
theorem RowT.k1 (h : RowT K H F v l) (hD : LstAt H Ds) (k : KeepL Ds H H') : RowT K H' F v l := by
  obtain ⟨a, xs, h1, h2, h3⟩ := h
  exact ⟨a, xs, h1, SqT.k1 h2 hD k, NumsV.map (fun v q h => h.k1 hD k) h3⟩
theorem RowT.row (h : RowT K H F v l) : RowV K H F v l := by
  obtain ⟨a, xs, h1, h2, h3⟩ := h
  exact ⟨true, a, xs, h1, h2, h3⟩
theorem PairsT.k1 (hD : LstAt H Ds) (k : KeepL Ds H H') : ∀ {xs : List V} {A : List (Ll F.F)}, PairsT K H F xs A → PairsT K H' F xs A
  | _, _, .nil => .nil
  | _, _, .cons ⟨t, rv, e, h1, h2⟩ r => .cons ⟨t, rv, e, SqT.k1 h1 hD k, h2.k1 hD k⟩ (PairsT.k1 hD k r)
theorem PairsT.same (s : Same H H') {xs : List V} {A : List (Ll F.F)} (h : PairsT K H F xs A) : PairsT K H' F xs A := PairsT.k1 (Ds := []) (fun b hb => by cases hb) (Same.k1 s) h
theorem PairsT.snoc {t : Addr} {rv : V} {a : Ll F.F} (h1 : SqT K H t [.int (a.1 : Nat), rv]) (h2 : RowT K H F rv a.2) : ∀ {xs : List V} {A : List (Ll F.F)}, PairsT K H F xs A → PairsT K H F (xs ++ [.ref t]) (A ++ [a])
  | _, _, .nil => .cons ⟨t, rv, rfl, h1, h2⟩ .nil
  | _, _, .cons g r => .cons g (PairsT.snoc h1 h2 r)
theorem PairsT.len {xs : List V} {A : List (Ll F.F)} (h : PairsT K H F xs A) : xs.length = A.length := Paired.length h
theorem PairsT.rev {xs : List V} {A : List (Ll F.F)} (h : PairsT K H F xs A) : PairsT K H F xs.reverse A.reverse := by
  induction h with
  | nil => exact .nil
  | cons g _ ih =>
    obtain ⟨t, rv, rfl, h1, h2⟩ := g
    rw [List.reverse_cons, List.reverse_cons]
    exact PairsT.snoc h1 h2 ih
theorem PairsT.pick : ∀ {xs : List V} {A : List (Ll F.F)} {i : Nat} {x : V}, PairsT K H F xs A → xs[i]? = some x → ∃ a t rv, A[i]? = some a ∧ x = .ref t ∧ SqT K H t [.int (a.1 : Nat), rv] ∧ RowT K H F rv a.2
  | _, _, i, x, .nil, e => by simp at e
  | _, _, 0, x, .cons h t, e => by
    have e := Option.some.inj ((List.getElem?_cons_zero ..).symm.trans e)
    subst e
    obtain ⟨t, rv, h1, h2, h3⟩ := h
    exact ⟨_, t, rv, rfl, h1, h2, h3⟩
  | _, _, i + 1, x, .cons h t, e => by
    obtain ⟨a, t, rv, h1, h2⟩ := PairsT.pick (i := i) (x := x) t (by simpa using e)
    exact ⟨a, t, rv, by simpa using h1, h2⟩
theorem PairsD.pick : ∀ {xs : List V} {A : List (Ll F.F)} {i : Nat} {x : V}, PairsD K H F Ds xs A → xs[i]? = some x → ∃ a t rv, A[i]? = some a ∧ x = .ref t ∧ SqT K H t [.int (a.1 : Nat), rv] ∧ RowD K H F Ds rv a.2
  | _, _, i, x, .nil, e => by simp at e
  | _, _, 0, x, .cons h t, e => by
    have e := Option.some.inj ((List.getElem?_cons_zero ..).symm.trans e)
    subst e
    obtain ⟨t, rv, h1, h2, h3⟩ := h
    exact ⟨_, t, rv, rfl, h1, h2, h3⟩
  | _, _, i + 1, x, .cons h t, e => by
    obtain ⟨a, t, rv, h1, h2⟩ := PairsD.pick (i := i) (x := x) t (by simpa using e)
    exact ⟨a, t, rv, by simpa using h1, h2⟩
end
theorem RowT.same {K : PySem.W.Frag} {H H' : Hp} {f : Int} {F : Fd f} {v : V} {l : List F.F} (h : RowT K H F v l) (s : Same H H') : RowT K H' F v l := h.k1 (Ds := []) (fun b hb => by cases hb) (Same.k1 s)
theorem RowT.pick {K : PySem.W.Frag} {H : Hp} {f : Int} {F : Fd f} {v : V} {l : List F.F} {i : Nat} (h : RowT K H F v l) (hi : i < l.length) : letI := F.fld; ∃ (a : Addr) (xs : List V) (x : V), v = .ref a ∧ SqT K H a xs ∧ xs[i]? = some x ∧ NumV K H x (F.enc (vec l i)) := by
  letI := F.fld
  obtain ⟨a, xs, rfl, h1, h2⟩ := h
  obtain ⟨x, h3, h4⟩ := h2.pick hi
  exact ⟨a, xs, x, rfl, h1, h3, h4⟩
theorem RedU.dropL {F : Type} [Lean.Grind.Field F] {A : List (Ll F)} (R : RedU (vecs A)) (k : Nat) : RedU (vecs (A.drop k)) := by
  have m : ∀ {x : Lr F}, x ∈ vecs (A.drop k) → x ∈ vecs A := fun h => by
    obtain ⟨y, hy, rfl⟩ := List.mem_map.mp h
    exact List.mem_map_of_mem (List.mem_of_mem_drop hy)
  refine ⟨?_, fun a ha => R.one a (m ha), fun a ha => R.ahead a (m ha), fun a ha b hb => R.alone a (m ha) b (m hb)⟩
  have h := R.dist
  rw [List.pairwise_map] at h ⊢
  exact h.sublist (List.drop_sublist k A)
theorem Ech.suf {F : Type} [Lean.Grind.Field F] {A B : List (Ll F)} (E : Ech (vecs (A ++ B))) : Ech (vecs B) := by
  have m : ∀ {x : Lr F}, x ∈ vecs B → x ∈ vecs (A ++ B) := fun h => by
    obtain ⟨y, hy, rfl⟩ := List.mem_map.mp h
    exact List.mem_map_of_mem (List.mem_append_right _ hy)
  have h := E.up
  rw [List.pairwise_map] at h
  refine ⟨?_, fun a ha => E.one a (m ha), fun a ha => E.ahead a (m ha)⟩
  rw [List.pairwise_map]
  exact (List.pairwise_append.mp h).2.1
theorem drop_back {α : Type} {S : List α} {i : Nat} {d : α} (hi : i < S.length) (h : S[S.length - 1 - i]? = some d) : S.drop (S.length - (i + 1)) = d :: S.drop (S.length - i) := by
  have h1 : S.length - (i + 1) < S.length := by omega
  have e : S.length - 1 - i = S.length - (i + 1) := by omega
  rw [e] at h
  have h2 : S[S.length - (i + 1)] = d := (List.getElem?_eq_some_iff.mp h).2
  rw [List.drop_eq_getElem_cons h1, h2]
  congr 1
  congr 1
  omega
def spLeadsW (K : PySem.W.Frag) : Sp := fun vs H Q _ => ∃ (f : Int) (r : Addr) (xs : List V) (w W m : Nat) (F : Fd f) (L : List (List F.F)) (G : Nat → List (List F.F) → Prop), vs = [.int f, .ref r, .int (w : Nat)] ∧ IsF f ∧ SqL K H r xs ∧ RowsV K H F xs L ∧ (∀ l ∈ L, l.length = W) ∧ w ≤ W ∧ W ≤ 500 ∧ L.length ≤ 60 ∧ 7 ≤ m ∧ m ≤ 3300 ∧
  WayOk F W m G ∧ G 0 L ∧ (letI := F.fld; letI := F.dec; (∀ x ∈ steps (List.range' 0 w) L, Ht F m (vec x.2)) ∧ ∀ A B, steps (List.range' 0 w) L = A ++ B → HtC F m (rowsOf (vecs (back B)))) ∧
  ∀ H' D ys, Same H H' → H D = none → H' D = some (.lst ys) → (letI := F.fld; letI := F.dec; PairsT K H' F ys (redW w L)) → Q (.ref D) H'
theorem len_with_leads {K vs H Q E} (h : spLeadsW K vs H Q E) : vs.length = (["field", "rows", "width"] : List Str).length := by
  obtain ⟨f, r, xs, w, W, m, F, L, G, rfl, _⟩ := h
  rfl
theorem way_lv {f : Int} {F : Fd f} {W m : Nat} : WayOk F W m (fun _ left => letI := F.fld; Lv F m (left.map vec)) := by
  letI := F.fld
  letI := F.dec
  exact ⟨fun p left h y hy => Lv.ht h (List.mem_map_of_mem hy), fun p left h _ _ => h, fun p left i r h L _ hr hne => lv_next L h hr hne⟩
def spLeads (K : PySem.W.Frag) : Sp := fun vs H Q _ => ∃ (f : Int) (r : Addr) (xs : List V) (w m s c : Nat) (F : Fd f) (L : List (List F.F)), vs = [.int f, .ref r, .int (w : Nat)] ∧ IsF f ∧ SqL K H r xs ∧ RowsV K H F xs L ∧ (∀ l ∈ L, l.length = w) ∧ w ≤ 500 ∧ L.length ≤ 60 ∧ 7 ≤ m ∧ m ≤ 3300 ∧
  (letI := F.fld; OrgL F [] [] (L.map vec) s) ∧ fact L.length < 2 ^ c ∧ s + c ≤ m ∧
  ∀ H' D ys, Same H H' → H D = none → H' D = some (.lst ys) → (letI := F.fld; letI := F.dec; PairsT K H' F ys (redL w L)) → Q (.ref D) H'
theorem leads_narrow {K : PySem.W.Frag} {vs : List V} {H : Hp} {Q : VK} {E : XK} (h : spLeads K vs H Q E) : spLeadsW K vs H Q E := by
  obtain ⟨a, r, xs, w, m, s, c, F, L, e, hf, hx, hL, hw, w5, l5, m7, m30, ho, hfc, hsc, q⟩ := h
  letI := F.fld
  letI := F.dec
  have lv : Lv F m (L.map vec) := Lv.start ho (by rw [List.length_map]; exact hfc) hsc
  exact ⟨a, r, xs, w, w, m, F, L, _, e, hf, hx, hL, hw, Nat.le_refl _, w5, l5, m7, m30, way_lv, lv, ⟨fun x hx => steps_ht w 0 L (Nat.zero_add w) (left_start hw) lv x hx, fun A B e => back_htc hw ho hfc hsc A B e⟩, q⟩
theorem def_mono {P : Program} {w : World} {K : PySem.W.Frag} {mg : Str → Option Value} {base : Heap} {x : Str} {k : Nat} {ps : List Str} {sp sp' : Sp} (h : ∀ vs H Q E, sp' vs H Q E → sp vs H Q E) (D : Def P w K mg base x k ps sp) : Def P w K mg base x k ps sp' := by
  obtain ⟨f, fd, F, m, kp, b⟩ := D
  exact ⟨f, fd, F.imp h, m, kp, b⟩

open Lin
/-! shared -/
def RTs (K : PySem.W.Frag) (H : Hp) {f : Int} (F : Fd f) (xs : List V) (L : List (List F.F)) : Prop := Paired (fun v l => RowT K H F v l) xs L
section
variable {K : PySem.W.Frag} {H H' : Hp} {f : Int} {F : Fd f} {Ds : List Addr} {v : V} {l : List F.F}
theorem RTs.k1 (hD : LstAt H Ds) (k : KeepL Ds H H') : ∀ {xs : List V} {L : List (List F.F)}, RTs K H F xs L → RTs K H' F xs L
  | _, _, .nil => .nil
  | _, _, .cons g r => .cons (g.k1 hD k) (RTs.k1 hD k r)
theorem RTs.same (s : Same H H') {xs : List V} {L : List (List F.F)} (h : RTs K H F xs L) : RTs K H' F xs L := RTs.k1 (Ds := []) (fun b hb => by cases hb) (Same.k1 s) h
theorem RTs.snoc (h : RowT K H F v l) : ∀ {xs : List V} {L : List (List F.F)}, RTs K H F xs L → RTs K H F (xs ++ [v]) (L ++ [l])
  | _, _, .nil => .cons h .nil
  | _, _, .cons g r => .cons g (RTs.snoc h r)
theorem RTs.len {xs : List V} {L : List (List F.F)} (h : RTs K H F xs L) : xs.length = L.length := Paired.length h
theorem RTs.pick : ∀ {xs : List V} {L : List (List F.F)} {i : Nat} {m : List F.F}, RTs K H F xs L → L[i]? = some m → ∃ x, xs[i]? = some x ∧ RowT K H F x m
  | _, _, i, x, .nil, e => by simp at e
  | _, _, 0, x, .cons h t, e => by
    have e := Option.some.inj ((List.getElem?_cons_zero ..).symm.trans e)
    subst e
    exact ⟨_, rfl, h⟩
  | _, _, i + 1, x, .cons h t, e => by
    obtain ⟨u, h1, h2⟩ := RTs.pick (i := i) (m := x) t (by simpa using e)
    exact ⟨u, by simpa using h1, h2⟩
theorem RTs.pickV : ∀ {xs : List V} {L : List (List F.F)} {i : Nat} {x : V}, RTs K H F xs L → xs[i]? = some x → ∃ m, L[i]? = some m ∧ RowT K H F x m
  | _, _, i, x, .nil, e => by simp at e
  | _, _, 0, x, .cons h t, e => by
    have e := Option.some.inj ((List.getElem?_cons_zero ..).symm.trans e)
    subst e
    exact ⟨_, rfl, h⟩
  | _, _, i + 1, x, .cons h t, e => by
    obtain ⟨u, h1, h2⟩ := RTs.pickV (i := i) (x := x) t (by simpa using e)
    exact ⟨u, by simpa using h1, h2⟩
theorem RTs.set (h : RowT K H F v l) : ∀ {xs : List V} {L : List (List F.F)} (i : Nat), RTs K H F xs L → RTs K H F (xs.set i v) (L.set i l)
  | _, _, _, .nil => .nil
  | _, _, 0, .cons _ r => .cons h r
  | _, _, i + 1, .cons g r => .cons g (RTs.set h i r)
theorem RTs.rows : ∀ {xs : List V} {L : List (List F.F)}, RTs K H F xs L → RowsV K H F xs L
  | _, _, .nil => .nil
  | _, _, .cons g r => .cons g.row (RTs.rows r)
end
theorem inV_leads {α : Type} {w : Nat} : ∀ A : List (Nat × α), inV (.int (w : Nat)) (A.map fun d => V.int (d.1 : Nat)) = A.any fun d => d.1 == w
  | [] => rfl
  | d :: A => by
    have ih := inV_leads (w := w) A
    unfold inV at ih ⊢
    rw [List.map_cons, List.any_cons, List.any_cons, ih]
    congr 1
    show ((d.1 : Int) == (w : Int)) = (d.1 == w)
    by_cases h : d.1 = w
    · rw [h]
      simp
    · rw [beq_false_of_ne h, beq_false_of_ne (by omega)]
theorem flat_leads {α : Type} : ∀ A : List (Nat × α), (A.map fun d => V.int (d.1 : Nat)).all flatV = true
  | [] => rfl
  | d :: A => by
    rw [List.map_cons, List.all_cons, flat_leads A]
    rfl
theorem NumsV.reps {K : PySem.W.Frag} {H : Hp} {v : V} {q : Pr} (h : NumV K H v q) : ∀ n : Nat, NumsV K H (List.replicate n v) (List.replicate n q)
  | 0 => .nil
  | n + 1 => .cons h (NumsV.reps h n)
theorem NumsV.set {K : PySem.W.Frag} {H : Hp} {v : V} {q : Pr} (h : NumV K H v q) : ∀ {vs : List V} {qs : List Pr} (i : Nat), NumsV K H vs qs → NumsV K H (vs.set i v) (qs.set i q)
  | _, _, _, .nil => .nil
  | _, _, 0, .cons _ r => .cons h r
  | _, _, i + 1, .cons g r => .cons g (NumsV.set h i r)
theorem flat_reps {α : Type} (x : α) : ∀ n : Nat, (List.replicate n [x]).flatten = List.replicate n x
  | 0 => rfl
  | n + 1 => by
    rw [List.replicate_succ, List.flatten_cons, flat_reps x n]
    rfl

/-! ## the law's draws -/
/-- the box of draws at its place: the cells' copy at l, how many are read, what is left of a great one, the seed, the count -/
def BoxAt (H : Hp) (box l : Addr) : Prop := ∃ (ns : List Int) (i : Nat) (x s c : Int), H box = some (.lst [.ref l, .int i, .int x, .int s, .int c]) ∧ H l = some (.lst (ns.map V.int)) ∧ l ≠ box ∧ 0 ≤ s ∧ s < 2147483647
def Keep (box : Addr) (H H' : Hp) : Prop := ∀ b o, b ≠ box → H b = some o → H' b = some o
structure Stp (box l : Addr) (H H' : Hp) : Prop where
  keep : Keep box H H'
  box : BoxAt H' box l
theorem Keep.refl (box : Addr) (H : Hp) : Keep box H H := fun _ _ _ h => h
theorem Keep.trans {box : Addr} {H H1 H2 : Hp} (a : Keep box H H1) (b : Keep box H1 H2) : Keep box H H2 := fun c o n h => b c o n (a c o n h)
theorem Keep.upd {box : Addr} {H H1 : Hp} {o : HO} (a : Keep box H H1) : Keep box H (upd H1 box o) := fun c u n h => by
  rw [upd_ne n]
  exact a c u n h
theorem Keep.of {box : Addr} {H H1 : Hp} (a : Same H H1) : Keep box H H1 := fun c u _ h => a c u h
theorem Stp.trans {box l : Addr} {H H1 H2 : Hp} (a : Stp box l H H1) (b : Stp box l H1 H2) : Stp box l H H2 := ⟨a.keep.trans b.keep, b.box⟩
theorem BoxAt.same {H H1 : Hp} {box l : Addr} (h : BoxAt H box l) (e : Same H H1) : BoxAt H1 box l := by
  obtain ⟨ns, i, x, s, c, h1, h2, h3⟩ := h
  exact ⟨ns, i, x, s, c, e _ _ h1, e _ _ h2, h3⟩
theorem Stp.same {H H1 H2 : Hp} {box l : Addr} (h : Stp box l H H1) (e : Same H1 H2) : Stp box l H H2 := ⟨h.keep.trans (Keep.of e), h.box.same e⟩
theorem Stp.refl {H : Hp} {box l : Addr} (h : BoxAt H box l) : Stp box l H H := ⟨Keep.refl _ _, h⟩
/-- a list that was made beside the box is written -/
theorem Stp.put {H H1 : Hp} {box l D : Addr} {o : HO} (h : Stp box l H H1) (hb : BoxAt H box l) (hD : H D = none) : Stp box l H (upd H1 D o) := by
  obtain ⟨k, ns, i, x, s, c, h1, h2, h3⟩ := h
  obtain ⟨_, _, _, _, _, g1, g2, _⟩ := hb
  refine ⟨fun b u n q => ?_, ns, i, x, s, c, ?_, ?_, h3⟩
  · rw [upd_ne (ne_of_none q hD)]
    exact k b u n q
  · rw [upd_ne (ne_of_none g1 hD)]
    exact h1
  · rw [upd_ne (ne_of_none g2 hD)]
    exact h2
theorem BoxAt.ne {H : Hp} {box l D : Addr} (hb : BoxAt H box l) (hD : H D = none) : D ≠ box := by
  obtain ⟨_, _, _, _, _, g1, _⟩ := hb
  exact (ne_of_none g1 hD).symm
/-- numbers stand through draws: a number is not the box -/
theorem NumV.keep {K : PySem.W.Frag} {H H' : Hp} {box l : Addr} {v : V} {q : Pr} (h : NumV K H v q) (hb : BoxAt H box l) (e : Keep box H H') : NumV K H' v q := by
  obtain ⟨p, h1, h2⟩ := h
  obtain ⟨ns, i, x, s, c, b1, _⟩ := hb
  refine ⟨p, h1, ?_⟩
  rcases h2 with (h | ⟨o, h⟩) | h
  · refine .inl (.inl (e _ _ (fun z => ?_) h))
    rw [z, b1] at h
    cases h
  · refine .inl (.inr ⟨o, e _ _ (fun z => ?_) h⟩)
    rw [z, b1] at h
    cases h
  · exact .inr h
theorem a50 (a b c d e : V) : atI [a, b, c, d, e] 0 = some a := rfl
theorem a51 (a b c d e : V) : atI [a, b, c, d, e] 1 = some b := rfl
theorem a52 (a b c d e : V) : atI [a, b, c, d, e] 2 = some c := rfl
theorem a53 (a b c d e : V) : atI [a, b, c, d, e] 3 = some d := rfl
theorem a54 (a b c d e : V) : atI [a, b, c, d, e] 4 = some e := rfl
theorem cpow {i j : Int} (h0 : 0 ≤ j) (h1 : j ≤ 1000000) (h2 : i.natAbs < 2 ^ 64) : CPow i j := ⟨h0, h1, h2⟩
def spDraw : Sp := fun vs H Q _ => ∃ (box l : Addr) (many : Int), vs = [.ref box, .int many] ∧ BoxAt H box l ∧ 0 < many ∧ many.natAbs.log2 < 9000 ∧ ∀ H' r, Stp box l H H' → 0 ≤ r → r < many → Q (.int r) H'
theorem len__law_draw {vs H Q E} (h : spDraw vs H Q E) : vs.length = (["_law_box", "_law_many"] : List Str).length := by
  obtain ⟨f, w, z, rfl, _⟩ := h
  rfl
theorem pos_of {j : Int} (h : 0 < j) : (fun (_ j : Int) => 0 < j) (0 : Int) j := h
theorem box_upd {H H1 : Hp} {box l : Addr} {ns : List Int} {i : Nat} {x s c : Int} (k : Keep box H H1) (b2 : H1 l = some (.lst (ns.map V.int))) (b3 : l ≠ box) (b4 : 0 ≤ s) (b5 : s < 2147483647)   : Stp box l H (upd H1 box (.lst [.ref l, .int i, .int x, .int s, .int c])) :=
  ⟨k.upd, ns, i, x, s, c, upd_same, by rw [upd_ne b3]; exact b2, b3, b4, b5⟩
theorem d__law_draw {P : Program} {w : World} {K : PySem.W.Frag} {mg : Str → Option Value} {base : Heap} (R : Raw K mg "_law_draw" s__law_draw) (B : Bn mg)  : Def P w K mg base "_law_draw" 1 ["_law_box", "_law_many"] (spDraw) := by
  obtain ⟨f, fd, F, m⟩ := R
  refine ⟨f, fd, F.ok sc__law_draw (fun vs H Q E h => ?_) (fun cdv A outer s H vs Q E hr h => ?_), m, F.kp, F.binds (ps := ["_law_box", "_law_many"]) fun _ _ _ _ _ _ us hl => match us, hl with | [_, _], _ => rfl⟩
  · exact len__law_draw h

  · obtain ⟨box, l, many, rfl, hbox, hm, hml, q⟩ := h
    refine ⟨_, (pss_cons (ps_if (PW.pt (pw_and (pt_cmpR op_lt (pe_ix ix_list (pv 0) pe_int (fun _ _ => rfl)) pe_int (nomark _)) (pw_and1 (pt_cmpR op_lt (pe_ix ix_list (pv 0) pe_int (fun _ _ => rfl)) (pe_callB call_len_seq (by rfl) B.len PySem.boot_len (pa_cons (pe_ix ix_list (pv 0) pe_int (fun _ _ => rfl)) pa_nil)) (nomark _))))) (pss_cons (ps_set (i := 2) sc__law_draw.nd rfl (Or.inl rfl) (pe_ix ix_list (pe_ix ix_list (pv 0) pe_int (fun _ _ => rfl)) (pe_ix ix_list (pv 0) pe_int (fun _ _ => rfl)) (fun _ _ => rfl))) (pss_cons (ps_asg (pe_op op_add (pe_ix ix_list (pv 0) pe_int (fun _ _ => rfl)) pe_int) (pg_sub (pv 0) pe_int set_list)) (pss_one (ps_if (pt_cmpR op_ge (pv 2) (pe_op op_pow pe_int pe_int) (nomark _)) (pss_one (ps_asg (pv 2) (pg_sub (pv 0) pe_int set_list))) (pss_one (ps_asg (pe_op op_mod (pe_op op_add (pe_ix ix_list (pv 0) pe_int (fun _ _ => rfl)) (pe_op op_mul (pe_op op_mod (pv 2) pe_int) pe_int)) pe_int) (pg_sub (pv 0) pe_int set_list))))))) pss_nil) (pss_cons (ps_if (pt_cmpR op_gt (pe_ix ix_list (pv 0) pe_int (fun _ _ => rfl)) pe_int (nomark _)) (pss_cons (ps_set (i := 3) sc__law_draw.nd rfl (Or.inl rfl) (pe_op op_mod (pe_ix ix_list (pv 0) pe_int (fun _ _ => rfl)) (pv 1))) (pss_cons (ps_asg (pe_op op_fdivA (pe_ix ix_list (pv 0) pe_int (fun _ _ => rfl)) (pv 1)) (pg_sub (pv 0) pe_int set_list)) (pss_one (ps_ret (pv 3))))) pss_nil) (pss_cons (ps_asg (pe_op op_add (pe_ix ix_list (pv 0) pe_int (fun _ _ => rfl)) pe_int) (pg_sub (pv 0) pe_int set_list)) (pss_cons (ps_set (i := 4) sc__law_draw.nd rfl (Or.inl rfl) (pe_op op_mod (pe_op op_add (pe_ix ix_list (pv 0) pe_int (fun _ _ => rfl)) (pe_op op_mul (pe_ix ix_list (pv 0) pe_int (fun _ _ => rfl)) pe_int)) pe_int)) (pss_cons (ps_asg (pe_op op_mod (pe_op op_add (pe_op op_add (pe_op op_mul (pe_op op_mod (pe_op op_mul (pv 4) (pv 4)) pe_int) (pe_op op_add (pe_op op_mod (pv 4) pe_int) pe_int)) (pe_op op_mul pe_int (pv 4))) pe_int) pe_int) (pg_sub (pv 0) pe_int set_list)) (pss_one (ps_ret (pe_op op_mod (pe_op op_add (pe_op op_fdiv (pe_ix ix_list (pv 0) pe_int (fun _ _ => rfl)) pe_int) (pe_op op_mul (pe_op op_mod (pe_ix ix_list (pv 0) pe_int (fun _ _ => rfl)) pe_int) pe_int)) (pv 1))))))))), ?_⟩
    refine tIfS_join (fun σ' H' => Stp box l H H' ∧ ∃ z, σ' = [some (.ref box), some (.int many), z, none, none]) ?_ (fun rest => ?_)
    · rintro σ1 H1 ⟨⟨k1, ns, i, x, s, c, b1, b2, b3, b4, b5⟩, z, rfl⟩
      have hb1 := SqL.of (K := K) b1
      refine ⟨_, rfl, box, _, _, _, rfl, rfl, hb1, a52 .., _, _, rfl, rfl, _, rfl, ite2 (fun e => ?_) (fun e => ?_)⟩
      · refine ⟨_, rfl, box, _, _, _, rfl, rfl, hb1, a52 .., _, rfl, _, _, rfl, rfl, hm, ?_⟩
        refine ⟨_, rfl, box, _, _, _, rfl, rfl, hb1, a52 .., _, rfl, _, _, rfl, rfl, ⟨by omega, hml⟩, _, rfl, box, _, _, _, rfl, rfl, b1, rfl, ?_⟩
        exact ⟨_, rfl, q _ _ (box_upd k1 b2 b3 b4 b5) (Int.emod_nonneg _ (by omega)) (Int.emod_lt_of_pos _ hm)⟩
      · refine ⟨_, rfl, box, _, _, _, rfl, rfl, hb1, a54 .., _, _, rfl, rfl, _, rfl, box, _, _, _, rfl, rfl, b1, rfl, ?_⟩
        have s2 := box_upd (i := i) (x := x) (c := c + 1) k1 b2 b3 b4 b5
        have e2 : (upd H1 box (.lst [.ref l, .int i, .int x, .int s, .int (c + 1)])) box = some (.lst [.ref l, .int i, .int x, .int s, .int (c + 1)]) := upd_same
        have e3 : (upd H1 box (.lst [.ref l, .int i, .int x, .int s, .int (c + 1)])) l = some (.lst (ns.map V.int)) := by rw [upd_ne b3]; exact b2
        have hb2 := SqL.of (K := K) e2
        refine ⟨_, rfl, box, _, _, _, rfl, rfl, hb2, a53 .., _, rfl, box, _, _, _, rfl, rfl, hb2, a54 .., _, _, rfl, rfl, .inr ⟨by decide, by decide⟩, _, _, rfl, rfl, _, _, rfl, rfl, (by decide : (0 : Int) < 2147483647), ?_⟩
        have hB0 : 0 ≤ (s + (c + 1) * 7919) % 2147483647 := Int.emod_nonneg _ (by decide)
        have hB1 : (s + (c + 1) * 7919) % 2147483647 < 2147483647 := Int.emod_lt_of_pos _ (by decide)
        revert hB0 hB1
        dsimp only
        generalize (s + (c + 1) * 7919) % 2147483647 = B
        intro hB0 hB1
        have hBB : B * B % 2147483629 < 2147483629 ∧ 0 ≤ B * B % 2147483629 := ⟨Int.emod_lt_of_pos _ (by decide), Int.emod_nonneg _ (by decide)⟩
        refine ⟨_, rfl, _, rfl, _, _, rfl, rfl, .inl ⟨by omega, by omega⟩, _, _, rfl, rfl, (by decide : (0 : Int) < 2147483629), _, rfl, _, _, rfl, rfl, (by decide : (0 : Int) < 65521), _, _, rfl, rfl, _, _, rfl, rfl, .inl ⟨by omega, by omega⟩, ?_⟩
        refine ⟨_, rfl, _, _, rfl, rfl, .inl ⟨by decide, by decide⟩, _, _, rfl, rfl, _, _, rfl, rfl, _, _, rfl, rfl, (by decide : (0 : Int) < 2147483647), ?_⟩
        refine ⟨_, rfl, box, _, _, _, rfl, rfl, e2, rfl, ?_⟩
        have hS0 : 0 ≤ (B * B % 2147483629 * (B % 65521 + 3) + 40692 * B + 1013) % 2147483647 := Int.emod_nonneg _ (by decide)
        have hS1 : (B * B % 2147483629 * (B % 65521 + 3) + 40692 * B + 1013) % 2147483647 < 2147483647 := Int.emod_lt_of_pos _ (by decide)
        revert hS0 hS1
        dsimp only
        generalize (B * B % 2147483629 * (B % 65521 + 3) + 40692 * B + 1013) % 2147483647 = S
        intro hS0 hS1
        have s3 := box_upd (i := i) (x := x) (c := c + 1) s2.keep e3 b3 hS0 hS1
        have e4 : (upd (upd H1 box (.lst [.ref l, .int i, .int x, .int s, .int (c + 1)])) box (.lst [.ref l, .int i, .int x, .int S, .int (c + 1)])) box = some (.lst [.ref l, .int i, .int x, .int S, .int (c + 1)]) := upd_same
        have hb3 := SqL.of (K := K) e4
        refine ⟨_, rfl, box, _, _, _, rfl, rfl, hb3, a53 .., _, _, rfl, rfl, ⟨by decide, by decide⟩, _, rfl, box, _, _, _, rfl, rfl, hb3, a53 .., _, _, rfl, rfl, (by decide : (0 : Int) < 8191), _, _, rfl, rfl, .inr ⟨by decide, by decide⟩, _, _, rfl, rfl, _, rfl, _, _, rfl, rfl, hm, ?_⟩
        exact q _ _ s3 (Int.emod_nonneg _ (by omega)) (Int.emod_lt_of_pos _ hm)
    · obtain ⟨ns, i, x, s, c, b1, b2, b3, b4, b5⟩ := id hbox
      have hb1 := SqL.of (K := K) b1
      have hL := SqL.of (K := K) b2
      have k1 := Keep.refl box H
      refine ⟨_, rfl, box, _, _, _, rfl, rfl, hb1, a52 .., _, _, rfl, rfl, _, rfl, ite2 (fun e => ?_) (fun e => ?_)⟩
      · refine ⟨_, rfl, box, _, _, _, rfl, rfl, hb1, a51 .., _, rfl, box, _, _, _, rfl, rfl, hb1, a50 .., l, _, rfl, .inl hL, _, _, rfl, rfl, _, rfl, ite2 (fun e => ?_) (fun e => ?_)⟩
        · have e := of_decide_eq_true e
          rw [List.length_map] at e
          have hi : i < ns.length := by omega
          have hget : (ns.map V.int)[i]? = some (.int ns[i]) := by
            rw [List.getElem?_map, List.getElem?_eq_getElem hi]
            rfl
          refine ⟨_, rfl, box, _, _, _, rfl, rfl, hb1, a50 .., _, rfl, box, _, _, _, rfl, rfl, hb1, a51 .., l, _, _, _, rfl, rfl, hL, atI_nat hget, ?_⟩
          refine ⟨_, rfl, box, _, _, _, rfl, rfl, hb1, a51 .., _, _, rfl, rfl, _, rfl, box, _, _, _, rfl, rfl, b1, rfl, ?_⟩
          have s2 := box_upd (i := i + 1) (x := x) (c := c) k1 b2 b3 b4 b5
          have e2 : (upd H box (.lst [.ref l, .int ((i + 1 : Nat) : Int), .int x, .int s, .int c])) box = some (.lst [.ref l, .int ((i + 1 : Nat) : Int), .int x, .int s, .int c]) := upd_same
          have e3 : (upd H box (.lst [.ref l, .int ((i + 1 : Nat) : Int), .int x, .int s, .int c])) l = some (.lst (ns.map V.int)) := by rw [upd_ne b3]; exact b2
          have hb2 := SqL.of (K := K) e2
          refine ⟨_, rfl, _, _, rfl, rfl, cpow (by decide) (by decide) (by decide), _, _, rfl, rfl, _, rfl, ite2 (fun e => ?_) (fun e => ?_)⟩
          · refine ⟨_, rfl, _, rfl, box, _, _, _, rfl, rfl, e2, rfl, ?_⟩
            exact rest _ _ ⟨box_upd s2.keep e3 b3 b4 b5, _, rfl⟩
          · refine ⟨_, rfl, box, _, _, _, rfl, rfl, hb2, a53 .., _, rfl, _, _, rfl, rfl, (by decide : (0 : Int) < 2147483629), _, _, rfl, rfl, .inr ⟨by decide, by decide⟩, _, _, rfl, rfl, _, _, rfl, rfl, (by decide : (0 : Int) < 2147483647), ?_⟩
            refine ⟨_, rfl, box, _, _, _, rfl, rfl, e2, rfl, ?_⟩
            exact rest _ _ ⟨box_upd s2.keep e3 b3 (Int.emod_nonneg _ (by decide)) (Int.emod_lt_of_pos _ (by decide)), _, rfl⟩
        · exact rest _ _ ⟨Stp.refl hbox, none, rfl⟩
      · exact iteF (rest _ _ ⟨Stp.refl hbox, none, rfl⟩)

/-! ## the law's helpers -/
theorem SqL.keep {K : PySem.W.Frag} {H H' : Hp} {box p : Addr} {xs : List V} (h : SqL K H p xs) (n : p ≠ box) (e : Keep box H H') : SqL K H' p xs := by
  rcases h with (h | ⟨o, h⟩) | h
  · exact .inl (.inl (e _ _ n h))
  · exact .inl (.inr ⟨o, e _ _ n h⟩)
  · exact .inr h
theorem cut_map (ns : List Int) (lo hi : Option Int) : ∃ ms : List Int, cutV (ns.map V.int) lo hi = ms.map V.int := by
  unfold cutV
  rw [← List.map_drop, ← List.map_take]
  exact ⟨_, rfl⟩
/-- _law_open: a new box -/
def spOpen (K : PySem.W.Frag) : Sp := fun vs H Q _ => ∃ (a : Addr) (ns : List Int), vs = [.ref a] ∧ SqL K H a (ns.map V.int) ∧ ∀ H' box l, Same H H' → BoxAt H' box l → Q (.ref box) H'
theorem len__law_open {K vs H Q E} (h : spOpen K vs H Q E) : vs.length = (["_law_script"] : List Str).length := by
  obtain ⟨f, w, rfl, _⟩ := h
  rfl
theorem d__law_open {P : Program} {w : World} {K : PySem.W.Frag} {mg : Str → Option Value} {base : Heap} (R : Raw K mg "_law_open" s__law_open) (B : Bn mg)  : Def P w K mg base "_law_open" 1 ["_law_script"] (spOpen K) := by
  obtain ⟨f, fd, F, m⟩ := R
  refine ⟨f, fd, F.ok sc__law_open (fun vs H Q E h => ?_) (fun cdv A outer s H vs Q E hr h => ?_), m, F.kp, F.binds (ps := ["_law_script"]) fun _ _ _ _ _ _ us hl => match us, hl with | [_], _ => rfl⟩
  · exact len__law_open h

  · obtain ⟨a, ns, rfl, hS, q⟩ := h
    refine ⟨_, (pss_cons (ps_set (i := 1) sc__law_open.nd rfl (Or.inl rfl) pe_int) (pss_cons (ps_for PassesOwn.never rfl (pi_list (pe_slice sl_list (pv 0) po_none (po_some pe_int))) (pg_name (i := 2) sc__law_open.nd rfl (Or.inl rfl)) (pss_one (ps_set (i := 1) sc__law_open.nd rfl (Or.inl rfl) (pe_op op_mod (pe_op op_add (pe_op op_add (pe_op op_mul (pv 1) pe_int) (pe_op op_mod (pv 2) pe_int)) pe_int) pe_int)))) (pss_one (ps_ret (pe_lst (pa_cons (pe_callTy call_list_of (by rfl) B.list (by decide +kernel) (pa_cons (pe_slice sl_list (pv 0) po_none (po_some pe_int)) pa_nil)) (pa_cons pe_int (pa_cons pe_int (pa_cons (pv 1) (pa_cons pe_int pa_nil)))))))))), ?_⟩
    refine ⟨_, rfl, 63, rfl, a, _, rfl, hS, fun p hp => ?_⟩
    obtain ⟨ms, hms⟩ := cut_map ns none (some 63)
    rw [hms]
    have s1 : Same H (upd H p (.lst (ms.map V.int))) := same_new hp
    refine ⟨p, rfl, ⟨_, SqL.of upd_same⟩, for_list (K := K) (a := p) (xs := ms.map V.int) (fun i σ H' => H' = upd H p (.lst (ms.map V.int)) ∧ ∃ (s : Int) (z : Option V), 0 ≤ s ∧ s < 2147483647 ∧ σ = [some (.ref a), some (.int s), z])
      ⟨rfl, 1009, none, by decide, by decide, rfl⟩ (fun i σ H' _ ⟨e, _⟩ => by rw [e]; exact SqL.of upd_same) ?_ ?_⟩
    · rintro i y σ H' hi ⟨rfl, s, z, s0, s1', rfl⟩
      obtain ⟨u, rfl⟩ : ∃ u, y = V.int u := by
        rw [List.getElem?_map] at hi
        cases e : ms[i]? with
        | none =>
          rw [e] at hi
          cases hi
        | some u =>
          rw [e] at hi
          exact ⟨u, (Option.some.inj hi).symm⟩
      refine ⟨_, rfl, _, _, rfl, rfl, .inr ⟨by decide, by decide⟩, _, rfl, _, _, rfl, rfl, (by decide : (0 : Int) < 2147483629), _, _, rfl, rfl, _, _, rfl, rfl, _, _, rfl, rfl, (by decide : (0 : Int) < 2147483647), ?_⟩
      exact ⟨rfl, _, _, Int.emod_nonneg _ (by decide), Int.emod_lt_of_pos _ (by decide), rfl⟩
    · rintro σ H' ⟨rfl, s, z, s0, s1', rfl⟩
      refine ⟨_, rfl, 63, rfl, a, _, rfl, s1.seq hS, fun p2 hp2 => ?_⟩
      rw [hms]
      refine ⟨p2, _, rfl, .inl (SqL.of upd_same), fun l hl => ?_⟩
      have s2 := s1.trans ((same_new hp2).trans (same_new (o := .lst (ms.map V.int)) hl))
      refine ⟨_, rfl, (by show 5 ≤ sizeLine; decide), fun b hb => ?_⟩
      have nlb : l ≠ b := ne_of_none upd_same hb
      refine q _ b l (s2.trans (same_new hb)) ⟨ms, 0, 0, s, 0, upd_same, ?_, nlb, s0, s1'⟩
      rw [upd_ne nlb, upd_same]
theorem at_mem {xs : List V} {r : Int} (h0 : 0 ≤ r) (h1 : r < (xs.length : Int)) : ∃ x, atI xs r = some x ∧ x ∈ xs := by
  obtain ⟨n, rfl⟩ : ∃ n : Nat, r = n := ⟨r.toNat, by omega⟩
  have hn : n < xs.length := by omega
  exact ⟨xs[n], atI_nat (List.getElem?_eq_getElem hn), List.getElem_mem hn⟩
/-- _law_any: some item of the list -/
def spAny (K : PySem.W.Frag) : Sp := fun vs H Q _ => ∃ (box l p : Addr) (xs : List V), vs = [.ref box, .ref p] ∧ BoxAt H box l ∧ SqL K H p xs ∧ p ≠ box ∧ xs ≠ [] ∧ xs.length ≤ 1000 ∧ ∀ H' x, Stp box l H H' → x ∈ xs → Q x H'
theorem len__law_any {K vs H Q E} (h : spAny K vs H Q E) : vs.length = (["_law_box", "_law_some"] : List Str).length := by
  obtain ⟨f, w, _, _, rfl, _⟩ := h
  rfl
theorem log_small {n : Int} (h0 : 0 < n) (h : n < 2 ^ 200) : n.natAbs.log2 < 9000 := by
  have : n.natAbs < 2 ^ 200 := by omega
  exact Nat.lt_of_lt_of_le (PySem.Flt.log2_lt_of (by decide) this) (by decide)
theorem d__law_any {P : Program} {w : World} {K : PySem.W.Frag} {mg : Str → Option Value} {base : Heap} (R : Raw K mg "_law_any" s__law_any) (B : Bn mg) (D__law_draw : Def P w K mg base "_law_draw" 1 ["_law_box", "_law_many"] (spDraw)) : Def P w K mg base "_law_any" 2 ["_law_box", "_law_some"] (spAny K) := by
  obtain ⟨f, fd, F, m⟩ := R
  obtain ⟨f__law_draw, fd__law_draw, G__law_draw, m__law_draw, k__law_draw, b__law_draw⟩ := D__law_draw
  refine ⟨f, fd, F.ok sc__law_any (fun vs H Q E h => ?_) (fun cdv A outer s H vs Q E hr h => ?_), m, F.kp, F.binds (ps := ["_law_box", "_law_some"]) fun _ _ _ _ _ _ us hl => match us, hl with | [_, _], _ => rfl⟩
  · exact len__law_any h

  · obtain ⟨box, l, p, xs, rfl, hb, hS, hn, hne, hl, q⟩ := h
    refine ⟨_, (pss_one (ps_ret (pe_ix ix_list (pv 1) (pe_call G__law_draw (hr.mono (by omega)) (by rfl) m__law_draw k__law_draw b__law_draw .nil pass0 (pa_cons (pv 0) (pa_cons (pe_callB call_len_seq (by rfl) B.len PySem.boot_len (pa_cons (pv 1) pa_nil)) pa_nil))) (fun _ _ => rfl)))), ?_⟩
    have hpos : 0 < xs.length := List.length_pos_iff.mpr hne
    refine ⟨_, rfl, _, rfl, _, rfl, p, _, rfl, .inl hS, box, l, _, rfl, hb, by omega, log_small (by omega) (by omega), fun H' r st h0 h1 => ?_⟩
    obtain ⟨x, hx, hm⟩ := at_mem h0 h1
    exact ⟨p, _, _, _, rfl, rfl, SqL.keep hS hn st.keep, hx, q _ _ st hm⟩
def primesI : List Int := [2, 3, 5, 7, 11, 13, 17, 19, 23, 29, 31, 37, 41, 43, 47, 53, 59, 61, 67, 71, 73, 79, 83, 89, 97]
def spPrimes : Sp := fun vs H Q _ => vs = [] ∧ ∀ p, H p = none → Q (.ref p) (upd H p (.lst (primesI.map V.int)))
theorem len__law_primes {vs H Q E} (h : spPrimes vs H Q E) : vs.length = ([] : List Str).length := by
  obtain ⟨rfl, _⟩ := h
  rfl
theorem d__law_primes {P : Program} {w : World} {K : PySem.W.Frag} {mg : Str → Option Value} {base : Heap} (R : Raw K mg "_law_primes" s__law_primes)  : Def P w K mg base "_law_primes" 1 [] (spPrimes) := by
  obtain ⟨f, fd, F, m⟩ := R
  refine ⟨f, fd, F.ok sc__law_primes (fun vs H Q E h => ?_) (fun cdv A outer s H vs Q E hr h => ?_), m, F.kp, F.binds (ps := []) fun _ _ _ _ _ _ us hl => match us, hl with | [], _ => rfl⟩
  · exact len__law_primes h

  · obtain ⟨rfl, q⟩ := h
    refine ⟨_, (pss_one (ps_ret (pe_lst (pa_cons pe_int (pa_cons pe_int (pa_cons pe_int (pa_cons pe_int (pa_cons pe_int (pa_cons pe_int (pa_cons pe_int (pa_cons pe_int (pa_cons pe_int (pa_cons pe_int (pa_cons pe_int (pa_cons pe_int (pa_cons pe_int (pa_cons pe_int (pa_cons pe_int (pa_cons pe_int (pa_cons pe_int (pa_cons pe_int (pa_cons pe_int (pa_cons pe_int (pa_cons pe_int (pa_cons pe_int (pa_cons pe_int (pa_cons pe_int (pa_cons pe_int pa_nil)))))))))))))))))))))))))))), ?_⟩
    exact ⟨(by show 25 ≤ sizeLine; decide), q⟩
theorem primesI_isF {f : Int} (h : V.int f ∈ primesI.map V.int) : IsF f := by
  obtain ⟨g, hg, e⟩ := List.mem_map.mp h
  have e := V.int.inj e
  subst e
  have key : ∀ x ∈ primesI, x.toNat ∈ primesN ∧ x = (x.toNat : Int) := by decide +kernel
  exact .inr ⟨_, (key _ hg).1, (key _ hg).2⟩
def spField : Sp := fun vs H Q _ => ∃ (box l : Addr), vs = [.ref box] ∧ BoxAt H box l ∧ ∀ H' f, Stp box l H H' → IsF f → Q (.int f) H'
theorem len__law_field {vs H Q E} (h : spField vs H Q E) : vs.length = (["_law_box"] : List Str).length := by
  obtain ⟨f, w, rfl, _⟩ := h
  rfl
theorem isF_prime {p : Nat} (h : p ∈ primesN) : IsF p := .inr ⟨p, h, rfl⟩
theorem d__law_field {P : Program} {w : World} {K : PySem.W.Frag} {mg : Str → Option Value} {base : Heap} (R : Raw K mg "_law_field" s__law_field) (D__law_draw : Def P w K mg base "_law_draw" 1 ["_law_box", "_law_many"] (spDraw)) (D__law_any : Def P w K mg base "_law_any" 2 ["_law_box", "_law_some"] (spAny K)) (D__law_primes : Def P w K mg base "_law_primes" 1 [] (spPrimes)) : Def P w K mg base "_law_field" 3 ["_law_box"] (spField) := by
  obtain ⟨f, fd, F, m⟩ := R
  obtain ⟨f__law_draw, fd__law_draw, G__law_draw, m__law_draw, k__law_draw, b__law_draw⟩ := D__law_draw
  obtain ⟨f__law_any, fd__law_any, G__law_any, m__law_any, k__law_any, b__law_any⟩ := D__law_any
  obtain ⟨f__law_primes, fd__law_primes, G__law_primes, m__law_primes, k__law_primes, b__law_primes⟩ := D__law_primes
  refine ⟨f, fd, F.ok sc__law_field (fun vs H Q E h => ?_) (fun cdv A outer s H vs Q E hr h => ?_), m, F.kp, F.binds (ps := ["_law_box"]) fun _ _ _ _ _ _ us hl => match us, hl with | [_], _ => rfl⟩
  · exact len__law_field h

  · obtain ⟨box, l, rfl, hb, q⟩ := h
    refine ⟨_, (pss_one (ps_ret (pe_ix ix_list (pe_lst (pa_cons pe_int (pa_cons pe_int (pa_cons pe_int (pa_cons pe_int (pa_cons pe_int (pa_cons (pe_call G__law_any (hr.mono (by omega)) (by rfl) m__law_any k__law_any b__law_any .nil pass0 (pa_cons (pv 0) (pa_cons (pe_call0 G__law_primes (hr.mono (by omega)) (by rfl) m__law_primes k__law_primes b__law_primes .nil pass0) pa_nil))) pa_nil))))))) (pe_call G__law_draw (hr.mono (by omega)) (by rfl) m__law_draw k__law_draw b__law_draw .nil pass0 (pa_cons (pv 0) (pa_cons pe_int pa_nil))) (fun _ _ => rfl)))), ?_⟩
    refine ⟨_, rfl, rfl, fun p hp => ?_⟩
    have s1 : Same H (upd H p (.lst (primesI.map V.int))) := same_new hp
    refine ⟨box, l, p, _, rfl, hb.same s1, SqL.of upd_same, hb.ne hp, by decide, by decide, fun H2 x st hx => ?_⟩
    refine ⟨(by show 6 ≤ sizeLine; decide), fun z hz => ?_⟩
    have s3 : Same H2 (upd H2 z (.lst [.int 0, .int 0, .int 2, .int 3, .int 5, x])) := same_new hz
    refine ⟨_, rfl, box, l, _, rfl, st.box.same s3, by decide, by decide +kernel, fun H4 r st4 h0 h1 => ?_⟩
    have hS : SqL K H4 z [.int 0, .int 0, .int 2, .int 3, .int 5, x] := SqL.keep (SqL.of upd_same) (st.box.ne hz) st4.keep
    have stt : Stp box l H H4 := ⟨((Keep.of s1).trans st.keep).trans ((Keep.of s3).trans st4.keep), st4.box⟩
    obtain ⟨f, rfl, hf⟩ : ∃ f, x = V.int f ∧ IsF f := by
      obtain ⟨g, hg, e⟩ := List.mem_map.mp hx
      subst e
      exact ⟨g, rfl, primesI_isF hx⟩
    have hr : r = 0 ∨ r = 1 ∨ r = 2 ∨ r = 3 ∨ r = 4 ∨ r = 5 := by omega
    rcases hr with rfl | rfl | rfl | rfl | rfl | rfl
    · exact ⟨z, _, _, _, rfl, rfl, hS, rfl, q _ _ stt (.inl rfl)⟩
    · exact ⟨z, _, _, _, rfl, rfl, hS, rfl, q _ _ stt (.inl rfl)⟩
    · exact ⟨z, _, _, _, rfl, rfl, hS, rfl, q _ _ stt (isF_prime (p := 2) (by decide))⟩
    · exact ⟨z, _, _, _, rfl, rfl, hS, rfl, q _ _ stt (isF_prime (p := 3) (by decide))⟩
    · exact ⟨z, _, _, _, rfl, rfl, hS, rfl, q _ _ stt (isF_prime (p := 5) (by decide))⟩
    · exact ⟨z, _, _, _, rfl, rfl, hS, rfl, q _ _ stt hf⟩
def spGcd : Sp := fun vs H Q _ => ∃ a b : Int, vs = [.int a, .int b] ∧ Q (.int ((Nat.gcd a.natAbs b.natAbs : Nat) : Int)) H
theorem len__law_gcd {vs H Q E} (h : spGcd vs H Q E) : vs.length = (["_law_one", "_law_other"] : List Str).length := by
  obtain ⟨f, w, rfl, _⟩ := h
  rfl
theorem abs_if (a : Int) : (if a < 0 then -a else a) = (a.natAbs : Int) := by
  split <;> omega
def gcdMu (σ : L2.St) : Nat := match σ with
  | [_, some (.int y)] => y.natAbs
  | _ => 0
theorem test_mono {r : R2} (hr : ∀ x y H Q Q', (∀ z H1, Q z H1 → Q' z H1) → r x y H Q → r x y H Q') (i : Nat) (c : V) : ∀ (σ : L2.St) (H : Hp) (Q Q' : Bool → Hp → Prop), (∀ b H1, Q b H1 → Q' b H1) → tTest (tOp r (tVar i) (tC c)) σ H Q → tTest (tOp r (tVar i) (tC c)) σ H Q' := by
  rintro σ H Q Q' h ⟨v, h1, h2⟩
  exact ⟨v, h1, hr _ _ _ _ _ (fun z H1 ⟨k, e, q⟩ => ⟨k, e, h _ _ q⟩) h2⟩
theorem rI0_mono {g : Int → Int → V} : ∀ x y H (Q Q' : VK), (∀ z H1, Q z H1 → Q' z H1) → rI0 g x y H Q → rI0 g x y H Q' := by
  rintro x y H Q Q' h ⟨i, j, e1, e2, q⟩
  exact ⟨i, j, e1, e2, h _ _ q⟩
theorem d__law_gcd {P : Program} {w : World} {K : PySem.W.Frag} {mg : Str → Option Value} {base : Heap} (R : Raw K mg "_law_gcd" s__law_gcd) (B : Bn mg)  : Def P w K mg base "_law_gcd" 1 ["_law_one", "_law_other"] (spGcd) := by
  obtain ⟨f, fd, F, m⟩ := R
  refine ⟨f, fd, F.ok sc__law_gcd (fun vs H Q E h => ?_) (fun cdv A outer s H vs Q E hr h => ?_), m, F.kp, F.binds (ps := ["_law_one", "_law_other"]) fun _ _ _ _ _ _ us hl => match us, hl with | [_, _], _ => rfl⟩
  · exact len__law_gcd h

  · obtain ⟨a, b, rfl, q⟩ := h
    refine ⟨_, (pss_cons (ps_par (i := 0) (j := 1) (by rfl) sc__law_gcd.nd rfl rfl (by decide) rfl rfl (pa_cons (pe_callB call_abs (by rfl) B.abs (by decide +kernel) (pa_cons (pv 0) pa_nil)) (pa_cons (pe_callB call_abs (by rfl) B.abs (by decide +kernel) (pa_cons (pv 1) pa_nil)) pa_nil)) (by rfl)) (pss_cons (ps_while PassesOwn.never (pt_cmpR op_gt (pv 1) pe_int (nomark _)) (pss_one (ps_par (i := 0) (j := 1) (by rfl) sc__law_gcd.nd rfl rfl (by decide) rfl rfl (pa_cons (pv 1) (pa_cons (pe_op op_mod (pv 0) (pv 1)) pa_nil)) (by rfl)))) (pss_one (ps_ret (pv 0))))), ?_⟩
    refine ⟨_, rfl, _, rfl, _, rfl, _, rfl, _, _, rfl, ?_⟩
    refine while_by (fun σ H' => H' = H ∧ ∃ x y : Nat, σ = [some (.int x), some (.int y)] ∧ Nat.gcd x y = Nat.gcd a.natAbs b.natAbs) (fun σ _ => gcdMu σ) ⟨rfl, a.natAbs, b.natAbs, ?_, rfl⟩ ?_ (test_mono rI0_mono 1 _)
    · rw [abs_if, abs_if]
      rfl
    · rintro σ H' ⟨rfl, x, y, rfl, hg⟩
      refine ⟨_, rfl, _, _, rfl, rfl, _, rfl, ite2 (fun e => ?_) (fun e => ?_)⟩
      · have e := of_decide_eq_true e
        refine ⟨_, rfl, _, rfl, _, rfl, _, _, rfl, rfl, e, _, _, rfl, ?_⟩
        refine ⟨⟨rfl, y, x % y, rfl, ?_⟩, ?_⟩
        · rw [← hg, Nat.gcd_comm y, ← Nat.gcd_rec, Nat.gcd_comm]
        · show (((x : Int) % (y : Int)).natAbs) < ((y : Int)).natAbs
          rw [← Int.natCast_emod, Int.natAbs_natCast, Int.natAbs_natCast]
          exact Nat.mod_lt _ (by omega)
      · have e : ¬ (0 : Int) < (y : Int) := fun z => e (decide_eq_true z)
        have y0 : y = 0 := by omega
        subst y0
        rw [Nat.gcd_zero_right] at hg
        refine ⟨_, rfl, ?_⟩
        rw [hg]
        exact q

/-! ## the law's numbers -/
theorem at_zero {x : V} {xs : List V} : atI (x :: xs) 0 = some x := atI_nat (j := 0) rfl
def filtN (f b : Int) (n : Nat) : List Nat := (List.range n).filter fun k => decide (b * (k : Int) % f = 1)
theorem filtN_succ (f b : Int) (n : Nat) : filtN f b (n + 1) = if b * (n : Int) % f = 1 then filtN f b n ++ [n] else filtN f b n := by
  unfold filtN
  rw [List.range_succ, List.filter_append]
  by_cases h : b * (n : Int) % f = 1
  · rw [if_pos h]
    simp [h]
  · rw [if_neg h]
    simp [h]
theorem ofI_ne {f : Int} (F : Fd f) {b : Int} (h : nouB f b = false) : letI := F.fld; F.ofI b ≠ 0 := by
  intro e
  have h2 := (F.ofI0 b).mp e
  by_cases h0 : f = 0
  · subst h0
    rw [if_pos rfl] at h2
    rw [nouB0, decide_eq_true h2] at h
    cases h
  · rw [if_neg h0] at h2
    rw [nouB1 h0, decide_eq_true h2] at h
    cases h
theorem num_first {f : Int} (hf : IsF f) (h0 : f ≠ 0) {b : Int} (hb : nouB f b = false) (t : Int) : ∃ (k : Nat) (r : List Nat), filtN f b f.toNat = k :: r ∧ (k : Int) < f ∧ low f t b = (t * (k : Int) % f, 1) := by
  obtain ⟨F⟩ := fd_ex hf
  letI := F.fld
  have hx : F.ofI b ≠ 0 := ofI_ne F hb
  have h2 := hf.two h0
  have key : ∀ k : Int, b * k % f = 1 → low f t b = (t * k % f, 1) := by
    intro k hk
    have e1 : F.ofI b * F.ofI k = 1 := by
      apply F.inj
      rw [← F.ofI_mul, F.encI, if_neg h0, hk, F.one]
    have e2 : (F.ofI b)⁻¹ = F.ofI k := by
      have h3 := Lean.Grind.Field.mul_inv_cancel hx
      grind
    rw [← F.low t b hx, e2, ← F.ofI_mul, F.encI, if_neg h0]
  have ex : ∃ k : Nat, k < f.toNat ∧ b * (k : Int) % f = 1 := by
    have hn := F.num ((F.ofI b)⁻¹)
    rcases hn with ⟨e, _⟩ | ⟨_, g2, g0, g1⟩
    · exact absurd e h0
    · refine ⟨(F.enc ((F.ofI b)⁻¹)).1.toNat, by omega, ?_⟩
      have e3 : (((F.enc ((F.ofI b)⁻¹)).1.toNat : Nat) : Int) = (F.enc ((F.ofI b)⁻¹)).1 := Int.toNat_of_nonneg g0
      have e4 : F.ofI ((F.enc ((F.ofI b)⁻¹)).1) = (F.ofI b)⁻¹ := by
        apply F.inj
        rw [F.encI, if_neg h0, Int.emod_eq_of_lt g0 g1, ← g2]
      have e5 : F.ofI (b * (F.enc ((F.ofI b)⁻¹)).1) = 1 := by
        rw [F.ofI_mul, e4]
        exact Lean.Grind.Field.mul_inv_cancel hx
      have e6 := congrArg F.enc e5
      rw [F.encI, if_neg h0, F.one] at e6
      rw [e3]
      exact congrArg Prod.fst e6
  cases hl : filtN f b f.toNat with
  | nil =>
    obtain ⟨k, hk, hk2⟩ := ex
    have hm : k ∈ filtN f b f.toNat := by
      unfold filtN
      rw [List.mem_filter]
      exact ⟨List.mem_range.mpr hk, decide_eq_true hk2⟩
    rw [hl] at hm
    cases hm
  | cons k r =>
    have hm : k ∈ filtN f b f.toNat := by
      rw [hl]
      exact List.mem_cons_self ..
    unfold filtN at hm
    rw [List.mem_filter] at hm
    have h3 := List.mem_range.mp hm.1
    exact ⟨k, r, rfl, by omega, key _ (of_decide_eq_true hm.2)⟩
def spNum (K : PySem.W.Frag) : Sp := fun vs H Q _ => ∃ f t b : Int, vs = [.int f, .int t, .int b] ∧ IsF f ∧ nouB f b = false ∧ (f = 0 → t.natAbs < 2 ^ 13500 ∧ b.natAbs < 2 ^ 13500) ∧ RetN K H Q (low f t b)
theorem len__law_num {K vs H Q E} (h : spNum K vs H Q E) : vs.length = (["_law_field_here", "_law_top", "_law_bottom"] : List Str).length := by
  obtain ⟨f, t, b, rfl, _⟩ := h
  rfl
theorem d__law_num {P : Program} {w : World} {K : PySem.W.Frag} {mg : Str → Option Value} {base : Heap} (R : Raw K mg "_law_num" s__law_num) (B : Bn mg) (D__law_gcd : Def P w K mg base "_law_gcd" 1 ["_law_one", "_law_other"] (spGcd)) : Def P w K mg base "_law_num" 2 ["_law_field_here", "_law_top", "_law_bottom"] (spNum K) := by
  obtain ⟨f, fd, F, m⟩ := R
  obtain ⟨f__law_gcd, fd__law_gcd, G__law_gcd, m__law_gcd, k__law_gcd, b__law_gcd⟩ := D__law_gcd
  refine ⟨f, fd, F.ok sc__law_num (fun vs H Q E h => ?_) (fun cdv A outer s H vs Q E hr h => ?_), m, F.kp, F.binds (ps := ["_law_field_here", "_law_top", "_law_bottom"]) fun _ _ _ _ _ _ us hl => match us, hl with | [_, _, _], _ => rfl⟩
  · exact len__law_num h

  · obtain ⟨a, t, b, rfl, hf, hn, hs, q⟩ := h
    refine ⟨_, (pss_cons (ps_if (pt_cmpR op_gt (pv 0) pe_int (nomark _)) (pss_one (ps_ret (pe_tup (pa_cons (pe_op op_mod (pe_op op_mul (pv 1) (pe_ix ix_list (pe_lc (own := [("_law_k", 3)]) (g := gName 3) rfl sc__law_num.nd (pi_range1 (by rfl) B.range (pa_cons (pv 0) pa_nil)) (blkOk_by (N := ["_law_field_here", "_law_top", "_law_bottom", "_law_k", "_law_part"]) (sc := defScope s__law_num) (by decide +kernel)) (fun _ _ _ _ _ => pg_name (i := 3) sc__law_num.nd rfl (Or.inl rfl)) (fun _ _ _ _ _ => pts_one (pt_cmpR op_eq (pe_op op_mod (pe_op op_mul (pv 2) (pv 3)) (pv 0)) pe_int (nomark _))) (fun _ _ _ _ _ => (pv 3))) pe_int (fun _ _ => rfl))) (pv 0)) (pa_cons pe_int pa_nil))))) pss_nil) (pss_cons (ps_set (i := 4) sc__law_num.nd rfl (Or.inl rfl) (pe_call G__law_gcd (hr.mono (by omega)) (by rfl) m__law_gcd k__law_gcd b__law_gcd .nil pass0 (pa_cons (pv 1) (pa_cons (pv 2) pa_nil)))) (pss_cons (ps_if (pt_cmpR op_lt (pv 2) pe_int (nomark _)) (pss_one (ps_set (i := 4) sc__law_num.nd rfl (Or.inl rfl) (pe_op op_sub pe_int (pv 4)))) pss_nil) (pss_one (ps_ret (pe_tup (pa_cons (pe_op op_fdivB (pv 1) (pv 4)) (pa_cons (pe_op op_fdivB (pv 2) (pv 4)) pa_nil)))))))), ?_⟩
    refine ⟨_, rfl, _, _, rfl, rfl, _, rfl, ite2 (fun e => ?_) (fun e => ?_)⟩
    · have e := of_decide_eq_true e
      have h0 : a ≠ 0 := by omega
      have h2 := hf.two h0
      obtain ⟨k0, r, hk, hk1, hlow⟩ := num_first hf h0 hn t
      refine ⟨_, rfl, _, rfl, a, rfl, by omega, by omega, fun D hD => ?_⟩
      refine lc_range (lo := 0) (n := a.toNat) (fun i H' => Same H H' ∧ H' D = some (.lst ((filtN a b i).map fun k : Nat => V.int (k : Int)))) ⟨same_new hD, upd_same⟩ ?_ ?_
      · rintro i H' hi ⟨s, hD'⟩
        have hsz : ((filtN a b i).map fun k : Nat => V.int (k : Int)).length < sizeLine := by
          rw [List.length_map]
          refine small1000 ?_
          unfold filtN
          have := List.length_filter_le (fun k : Nat => decide (b * (k : Int) % a = 1)) (List.range i)
          rw [List.length_range] at this
          omega
        refine ⟨rfl, _, rfl, _, rfl, _, _, rfl, rfl, .inr ⟨by omega, by omega⟩, _, rfl, _, _, rfl, rfl, (by show (0 : Int) < a; omega), rfl, _, rfl, ite2 (fun e => ?_) (fun e => ?_)⟩
        · have e := eqI e
          rw [Int.zero_add] at e
          refine ⟨_, rfl, _, hD', hsz, same_seqT_upd s hD hD', ?_⟩
          rw [upd_same, filtN_succ, if_pos e, List.map_append, Int.zero_add]
          rfl
        · have e := neI e
          rw [Int.zero_add] at e
          refine ⟨s, ?_⟩
          rw [hD', filtN_succ, if_neg e]
      · rintro H' ⟨s, hD'⟩
        rw [hk] at hD'
        refine ⟨D, _, 0, .int (k0 : Int), rfl, rfl, SqL.of hD', at_zero, t, (k0 : Int), rfl, rfl, .inr ⟨by omega, by omega⟩, _, rfl, _, _, rfl, rfl, (by show (0 : Int) < a; omega), (by show 2 ≤ sizeLine; decide), fun p hp => ?_⟩
        have q2 : RetN K H' Q (low a t b) := fun H2 v s2 hv => q H2 v (s.trans s2) hv
        exact q2.new hlow hp
    · have e : ¬ 0 < a := fun z => e (decide_eq_true z)
      have e0 : a = 0 := by
        have := hf.nn
        omega
      subst e0
      have hb : b ≠ 0 := by
        rw [nouB0] at hn
        exact of_decide_eq_false hn
      have hs := hs rfl
      have hg := gOf_ne (t := t) hb
      have hgl := gOf_le (t := t) hb
      have hq : low 0 t b = (t.fdiv (gOf t b), b.fdiv (gOf t b)) := by
        unfold low
        rw [if_neg (by simp)]
      have htt := divB hs.1 hg
      have hd := divB hs.2 hg
      refine ⟨_, rfl, _, rfl, t, b, rfl, ?_⟩
      refine ⟨_, rfl, _, _, rfl, rfl, _, rfl, ite2 (fun e => ?_) (fun e => ?_)⟩
      · have e := of_decide_eq_true e
        have eg : 0 - ((Nat.gcd t.natAbs b.natAbs : Nat) : Int) = gOf t b := by
          unfold gOf
          rw [if_pos e]
          omega
        refine ⟨_, rfl, _, _, rfl, rfl, ?_⟩
        dsimp only
        rw [eg]
        refine ⟨_, rfl, _, rfl, _, _, rfl, rfl, htt, _, rfl, _, rfl, _, _, rfl, rfl, hd, (by show 2 ≤ sizeLine; decide), fun p hp => ?_⟩
        exact q.new hq hp
      · have e := of_decide_eq_false (eq_false_of_ne_true e)
        have eg : ((Nat.gcd t.natAbs b.natAbs : Nat) : Int) = gOf t b := by
          unfold gOf
          rw [if_neg e]
        rw [eg]
        refine ⟨_, rfl, _, rfl, _, _, rfl, rfl, htt, _, rfl, _, rfl, _, _, rfl, rfl, hd, (by show 2 ≤ sizeLine; decide), fun p hp => ?_⟩
        exact q.new hq hp
/-- within the bounds of a web's numbers -/
def S99 (q : Pr) : Prop := q.1.natAbs ≤ 99 ∧ q.2.natAbs ≤ 99
theorem S99.sm {q : Pr} (h : S99 q) : Sm 7 q := ⟨Nat.lt_of_le_of_lt h.1 (by decide), Nat.lt_of_le_of_lt h.2 (by decide)⟩
/-- _law_number: a small number of the field -/
def spNumber (K : PySem.W.Frag) : Sp := fun vs H Q _ => ∃ (box l : Addr) (f : Int), vs = [.ref box, .int f] ∧ BoxAt H box l ∧ IsF f ∧ ∀ H' v q, Stp box l H H' → NumV K H' v q → IsN f q → S99 q → Q v H'
theorem len__law_number {K vs H Q E} (h : spNumber K vs H Q E) : vs.length = (["_law_box", "_law_field_here"] : List Str).length := by
  obtain ⟨f, w, z, rfl, _⟩ := h
  rfl
theorem NumV.box {K : PySem.W.Frag} {H H' : Hp} {box l p : Addr} {q : Pr} (h : H p = some (.tup [.int q.1, .int q.2])) (hb : BoxAt H box l) (e : Keep box H H') : NumV K H' (.ref p) q :=
  NumV.keep ⟨p, rfl, SqT.of h⟩ hb e
theorem six {r : Int} (h0 : 0 ≤ r) (h1 : r < 6) : r = 0 ∨ r = 1 ∨ r = 2 ∨ r = 3 ∨ r = 4 ∨ r = 5 := by omega
theorem isN_p {f a : Int} (h : f ≠ 0) (h0 : 0 ≤ a) (h1 : a < f) : IsN f (a, 1) := .inr ⟨h, rfl, h0, h1⟩
theorem sm_of {a b : Int} (ha : a.natAbs < 128) (hb : b.natAbs < 128) : Sm 7 (a, b) := ⟨ha, hb⟩
theorem isN_s99 {f : Int} {q : Pr} (hf : IsF f) (h0 : f ≠ 0) (h : IsN f q) : S99 q := by
  rcases h with ⟨h, _⟩ | ⟨_, h1, h2, h3⟩
  · exact absurd h h0
  · have := hf.two h0
    refine ⟨?_, ?_⟩
    · omega
    · omega
theorem isN_sm {f : Int} {q : Pr} (hf : IsF f) (h0 : f ≠ 0) (h : IsN f q) : Sm 7 q := by
  rcases h with ⟨h, _⟩ | ⟨_, h1, h2, h3⟩
  · exact absurd h h0
  · have := hf.two h0
    refine ⟨?_, ?_⟩
    · show _ < 128
      omega
    · show _ < 128
      omega
theorem d__law_number {P : Program} {w : World} {K : PySem.W.Frag} {mg : Str → Option Value} {base : Heap} (R : Raw K mg "_law_number" s__law_number) (D__law_draw : Def P w K mg base "_law_draw" 1 ["_law_box", "_law_many"] (spDraw)) (D__law_num : Def P w K mg base "_law_num" 2 ["_law_field_here", "_law_top", "_law_bottom"] (spNum K)) : Def P w K mg base "_law_number" 3 ["_law_box", "_law_field_here"] (spNumber K) := by
  obtain ⟨f, fd, F, m⟩ := R
  obtain ⟨f__law_draw, fd__law_draw, G__law_draw, m__law_draw, k__law_draw, b__law_draw⟩ := D__law_draw
  obtain ⟨f__law_num, fd__law_num, G__law_num, m__law_num, k__law_num, b__law_num⟩ := D__law_num
  refine ⟨f, fd, F.ok sc__law_number (fun vs H Q E h => ?_) (fun cdv A outer s H vs Q E hr h => ?_), m, F.kp, F.binds (ps := ["_law_box", "_law_field_here"]) fun _ _ _ _ _ _ us hl => match us, hl with | [_, _], _ => rfl⟩
  · exact len__law_number h

  · obtain ⟨box, l, a, rfl, hb, hf, q⟩ := h
    refine ⟨_, (pss_cons (ps_set (i := 2) sc__law_number.nd rfl (Or.inl rfl) (pe_call G__law_draw (hr.mono (by omega)) (by rfl) m__law_draw k__law_draw b__law_draw .nil pass0 (pa_cons (pv 0) (pa_cons pe_int pa_nil)))) (pss_cons (ps_if (pt_cmpR op_gt (pv 1) pe_int (nomark _)) (pss_one (ps_ret (pe_ix ix_list (pe_lst (pa_cons (pe_tup (pa_cons pe_int (pa_cons pe_int pa_nil))) (pa_cons (pe_tup (pa_cons pe_int (pa_cons pe_int pa_nil))) (pa_cons (pe_tup (pa_cons (pe_op op_sub (pv 1) pe_int) (pa_cons pe_int pa_nil))) (pa_cons (pe_tup (pa_cons (pe_call G__law_draw (hr.mono (by omega)) (by rfl) m__law_draw k__law_draw b__law_draw .nil pass0 (pa_cons (pv 0) (pa_cons (pv 1) pa_nil))) (pa_cons pe_int pa_nil))) (pa_cons (pe_tup (pa_cons pe_int (pa_cons pe_int pa_nil))) (pa_cons (pe_tup (pa_cons pe_int (pa_cons pe_int pa_nil))) pa_nil))))))) (pv 2) (fun _ _ => rfl)))) pss_nil) (pss_cons (ps_set (i := 3) sc__law_number.nd rfl (Or.inl rfl) (pe_ix ix_list (pe_lst (pa_cons pe_int (pa_cons pe_int (pa_cons (pe_un un_neg pe_int) (pa_cons (pe_op op_sub (pe_call G__law_draw (hr.mono (by omega)) (by rfl) m__law_draw k__law_draw b__law_draw .nil pass0 (pa_cons (pv 0) (pa_cons pe_int pa_nil))) pe_int) (pa_cons pe_int (pa_cons (pe_op op_sub (pe_call G__law_draw (hr.mono (by omega)) (by rfl) m__law_draw k__law_draw b__law_draw .nil pass0 (pa_cons (pv 0) (pa_cons pe_int pa_nil))) pe_int) pa_nil))))))) (pv 2) (fun _ _ => rfl))) (pss_cons (ps_set (i := 4) sc__law_number.nd rfl (Or.inl rfl) (pe_ix ix_list (pe_lst (pa_cons pe_int (pa_cons pe_int (pa_cons pe_int (pa_cons (pe_op op_add pe_int (pe_call G__law_draw (hr.mono (by omega)) (by rfl) m__law_draw k__law_draw b__law_draw .nil pass0 (pa_cons (pv 0) (pa_cons pe_int pa_nil)))) (pa_cons pe_int (pa_cons (pe_op op_add pe_int (pe_call G__law_draw (hr.mono (by omega)) (by rfl) m__law_draw k__law_draw b__law_draw .nil pass0 (pa_cons (pv 0) (pa_cons pe_int pa_nil)))) pa_nil))))))) (pv 2) (fun _ _ => rfl))) (pss_one (ps_ret (pe_call G__law_num (hr.mono (by omega)) (by rfl) m__law_num k__law_num b__law_num .nil pass0 (pa_cons pe_int (pa_cons (pv 3) (pa_cons (pv 4) pa_nil)))))))))), ?_⟩
    refine ⟨_, rfl, box, l, _, rfl, hb, by decide, by decide +kernel, fun H1 r st1 r0 r1 => ?_⟩
    refine ⟨_, rfl, _, _, rfl, rfl, _, rfl, ite2 (fun e => ?_) (fun e => ?_)⟩
    · have e := of_decide_eq_true e
      have h0 : a ≠ 0 := by omega
      have h2 := hf.two h0
      -- the six tuples
      refine ⟨(by show 2 ≤ sizeLine; decide), fun p0 n0 => ?_⟩
      refine ⟨(by show 2 ≤ sizeLine; decide), fun p1 n1 => ?_⟩
      refine ⟨_, rfl, _, _, rfl, rfl, (by show 2 ≤ sizeLine; decide), fun p2 n2 => ?_⟩
      have s0 := same_new (o := .tup [.int 0, .int 1]) n0
      have s1 := same_new (o := .tup [.int 1, .int 1]) n1
      have s2 := same_new (o := .tup [.int (a - 1), .int 1]) n2
      have st2 := ((st1.same s0).same s1).same s2
      refine ⟨_, rfl, _, rfl, box, l, _, rfl, st2.box, by omega, log_small (by omega) (by omega), fun H3 d st3 d0 d1 => ?_⟩
      refine ⟨(by show 2 ≤ sizeLine; decide), fun p3 n3 => ?_⟩
      refine ⟨(by show 2 ≤ sizeLine; decide), fun p4 n4 => ?_⟩
      refine ⟨(by show 2 ≤ sizeLine; decide), fun p5 n5 => ?_⟩
      refine ⟨(by show 6 ≤ sizeLine; decide), fun z nz => ?_⟩
      have s3 := same_new (o := .tup [.int d, .int 1]) n3
      have s4 := same_new (o := .tup [.int 0, .int 1]) n4
      have s5 := same_new (o := .tup [.int 1, .int 1]) n5
      have sz := same_new (o := .lst [.ref p0, .ref p1, .ref p2, .ref p3, .ref p4, .ref p5]) nz
      have stt := ((((st2.trans st3).same s3).same s4).same s5).same sz
      have k3 := st3.keep
      have e0 : NumV K H3 (.ref p0) (0, 1) := NumV.box (s2 _ _ (s1 _ _ upd_same)) st2.box k3
      have e1 : NumV K H3 (.ref p1) (1, 1) := NumV.box (s2 _ _ upd_same) st2.box k3
      have e2 : NumV K H3 (.ref p2) (a - 1, 1) := NumV.box (q := (a - 1, 1)) upd_same st2.box k3
      have fin : ∀ {v : V} {x y : Int}, NumV K _ v (x, y) → IsN a (x, y) → Q v _ := fun hv hN => q _ _ _ stt hv hN (isN_s99 hf h0 hN)
      rcases six r0 r1 with rfl | rfl | rfl | rfl | rfl | rfl
      · exact ⟨_, rfl, z, _, _, _, rfl, rfl, SqL.of upd_same, rfl, fin (((e0.same s3).same s4 |>.same s5).same sz) (isN_p h0 (by omega) (by omega))⟩
      · exact ⟨_, rfl, z, _, _, _, rfl, rfl, SqL.of upd_same, rfl, fin (((e1.same s3).same s4 |>.same s5).same sz) (isN_p h0 (by omega) (by omega))⟩
      · exact ⟨_, rfl, z, _, _, _, rfl, rfl, SqL.of upd_same, rfl, fin (((e2.same s3).same s4 |>.same s5).same sz) (isN_p h0 (by omega) (by omega))⟩
      · exact ⟨_, rfl, z, _, _, _, rfl, rfl, SqL.of upd_same, rfl, fin ((((NumV.new d 1).same s4).same s5).same sz) (isN_p h0 d0 d1)⟩
      · exact ⟨_, rfl, z, _, _, _, rfl, rfl, SqL.of upd_same, rfl, fin (((NumV.new 0 1).same s5).same sz) (isN_p h0 (by omega) (by omega))⟩
      · exact ⟨_, rfl, z, _, _, _, rfl, rfl, SqL.of upd_same, rfl, fin ((NumV.new 1 1).same sz) (isN_p h0 (by omega) (by omega))⟩
    · have e : ¬ 0 < a := fun z => e (decide_eq_true z)
      have e0 : a = 0 := by
        have := hf.nn
        omega
      subst e0
      -- top
      refine ⟨_, rfl, _, rfl, box, l, _, rfl, st1.box, by decide, by decide +kernel, fun H2 u st2 u0 u1 => ?_⟩
      refine ⟨_, _, rfl, rfl, _, rfl, box, l, _, rfl, st2.box, by decide, by decide +kernel, fun H3 w st3 w0 w1 => ?_⟩
      refine ⟨_, _, rfl, rfl, (by show 6 ≤ sizeLine; decide), fun z nz => ?_⟩
      have st3' := ((st1.trans st2).trans st3).same (same_new (o := .lst [.int 0, .int 1, .int (-1), .int (u - 3), .int 0, .int (w - 99)]) nz)
      have hT : ∃ t : Int, atI [V.int 0, .int 1, .int (-1), .int (u - 3), .int 0, .int (w - 99)] r = some (.int t) ∧ t.natAbs ≤ 99 := by
        rcases six r0 r1 with rfl | rfl | rfl | rfl | rfl | rfl
        · exact ⟨_, rfl, by decide⟩
        · exact ⟨_, rfl, by decide⟩
        · exact ⟨_, rfl, by decide⟩
        · exact ⟨_, rfl, by omega⟩
        · exact ⟨_, rfl, by decide⟩
        · exact ⟨_, rfl, by omega⟩
      obtain ⟨t, ht, htb⟩ := hT
      refine ⟨_, rfl, z, _, _, _, rfl, rfl, SqL.of upd_same, ht, ?_⟩
      -- bottom
      refine ⟨_, rfl, box, l, _, rfl, st3'.box, by decide, by decide +kernel, fun H4 u' st4 u0' u1' => ?_⟩
      refine ⟨_, _, rfl, rfl, _, rfl, box, l, _, rfl, st4.box, by decide, by decide +kernel, fun H5 w' st5 w0' w1' => ?_⟩
      refine ⟨_, _, rfl, rfl, (by show 6 ≤ sizeLine; decide), fun z' nz' => ?_⟩
      have st5' := ((st3'.trans st4).trans st5).same (same_new (o := .lst [.int 1, .int 1, .int 1, .int (1 + u'), .int 1, .int (1 + w')]) nz')
      have hB : ∃ b : Int, atI [V.int 1, .int 1, .int 1, .int (1 + u'), .int 1, .int (1 + w')] r = some (.int b) ∧ 0 < b ∧ b.natAbs ≤ 99 := by
        rcases six r0 r1 with rfl | rfl | rfl | rfl | rfl | rfl
        · exact ⟨_, rfl, by decide, by decide⟩
        · exact ⟨_, rfl, by decide, by decide⟩
        · exact ⟨_, rfl, by decide, by decide⟩
        · exact ⟨_, rfl, by omega, by omega⟩
        · exact ⟨_, rfl, by decide, by decide⟩
        · exact ⟨_, rfl, by omega, by omega⟩
      obtain ⟨b, hbt, hb0, hbb⟩ := hB
      refine ⟨_, rfl, z', _, _, _, rfl, rfl, SqL.of upd_same, hbt, ?_⟩
      have hbn : b ≠ 0 := by omega
      have hle := low0_le (t := t) hbn
      refine ⟨_, rfl, _, rfl, 0, t, b, rfl, hf, by rw [nouB0]; exact decide_eq_false hbn, fun _ => ⟨Nat.lt_of_le_of_lt htb (Nat.lt_trans (show 99 < 2 ^ 7 by decide) (Nat.pow_lt_pow_right (a := 2) (m := 7) (n := 13500) (by decide) (by decide))), Nat.lt_of_le_of_lt hbb (Nat.lt_trans (show 99 < 2 ^ 7 by decide) (Nat.pow_lt_pow_right (a := 2) (m := 7) (n := 13500) (by decide) (by decide)))⟩, fun H' v s hv => ?_⟩
      exact q _ _ _ (st5'.same s) hv (isN_low0 hbn) ⟨Nat.le_trans hle.1 htb, Nat.le_trans hle.2 hbb⟩

theorem d__law_plus {P : Program} {w : World} {K : PySem.W.Frag} {mg : Str → Option Value} {base : Heap} (R : Raw K mg "_law_plus" s__law_plus) (D__law_num : Def P w K mg base "_law_num" 2 ["_law_field_here", "_law_top", "_law_bottom"] (spNum K)) : Def P w K mg base "_law_plus" 3 ["_law_field_here", "_law_one", "_law_other"] (spTwo K addN) := by
  obtain ⟨f, fd, F, m⟩ := R
  obtain ⟨f__law_num, fd__law_num, G__law_num, m__law_num, k__law_num, b__law_num⟩ := D__law_num
  refine ⟨f, fd, F.ok sc__law_plus (fun vs H Q E h => ?_) (fun cdv A outer s H vs Q E hr h => ?_), m, F.kp, F.binds (ps := ["_law_field_here", "_law_one", "_law_other"]) fun _ _ _ _ _ _ us hl => match us, hl with | [_, _, _], _ => rfl⟩
  · exact len_two h

  · obtain ⟨a, x, y, p, r, rfl, hf, ⟨px, rfl, hx⟩, ⟨py, rfl, hy⟩, ⟨np, sp⟩, ⟨nr, sr⟩, q⟩ := h
    refine ⟨_, (pss_cons (ps_if (pt_cmpR op_gt (pv 0) pe_int (nomark _)) (pss_one (ps_ret (pe_tup (pa_cons (pe_op op_mod (pe_op op_add (pe_ix ix_tup (pv 1) pe_int (fun _ _ => rfl)) (pe_ix ix_tup (pv 2) pe_int (fun _ _ => rfl))) (pv 0)) (pa_cons pe_int pa_nil))))) pss_nil) (pss_one (ps_ret (pe_call G__law_num (hr.mono (by omega)) (by rfl) m__law_num k__law_num b__law_num .nil pass0 (pa_cons pe_int (pa_cons (pe_op op_add (pe_op op_mulW (pe_ix ix_tup (pv 1) pe_int (fun _ _ => rfl)) (pe_ix ix_tup (pv 2) pe_int (fun _ _ => rfl))) (pe_op op_mulW (pe_ix ix_tup (pv 2) pe_int (fun _ _ => rfl)) (pe_ix ix_tup (pv 1) pe_int (fun _ _ => rfl)))) (pa_cons (pe_op op_mulW (pe_ix ix_tup (pv 1) pe_int (fun _ _ => rfl)) (pe_ix ix_tup (pv 2) pe_int (fun _ _ => rfl))) pa_nil))))))), ?_⟩
    refine ⟨_, rfl, _, _, rfl, rfl, _, rfl, ite2 (fun e => ?_) (fun e => ?_)⟩
    · have e := of_decide_eq_true e
      refine ⟨_, rfl, px, _, _, _, rfl, rfl, hx, at0 _ _, _, rfl, py, _, _, _, rfl, rfl, hy, at0 _ _, _, _, rfl, rfl, _, rfl, _, _, rfl, rfl, e, (by show 2 ≤ sizeLine; decide), fun z hz => ?_⟩
      exact q.new (by unfold addN; rw [if_pos (by omega)]) hz
    · have e : ¬ 0 < a := fun z => e (decide_eq_true z)
      have e0 : a = 0 := by
        have := hf.nn
        omega
      subst e0
      have hp := np.den.1
      have hr' := nr.den.1
      refine ⟨_, rfl, px, _, _, _, rfl, rfl, hx, at0 _ _, _, rfl, py, _, _, _, rfl, rfl, hy, at1 _ _, _, _, rfl, rfl, wm sp.1 sr.2, ?_⟩
      refine ⟨_, rfl, py, _, _, _, rfl, rfl, hy, at0 _ _, _, rfl, px, _, _, _, rfl, rfl, hx, at1 _ _, _, _, rfl, rfl, wm sr.1 sp.2, _, _, rfl, rfl, ?_⟩
      refine ⟨_, rfl, px, _, _, _, rfl, rfl, hx, at1 _ _, _, rfl, py, _, _, _, rfl, rfl, hy, at1 _ _, _, _, rfl, rfl, wm sp.2 sr.2, ?_⟩
      have hm : p.2 * r.2 ≠ 0 := Int.mul_ne_zero (by omega) (by omega)
      refine ⟨0, _, _, rfl, hf, by rw [nouB0]; exact decide_eq_false hm, fun _ => ⟨big_sum sp.1 sr.2 sr.1 sp.2, big_mul sp.2 sr.2⟩, ?_⟩
      exact q
theorem d__law_times {P : Program} {w : World} {K : PySem.W.Frag} {mg : Str → Option Value} {base : Heap} (R : Raw K mg "_law_times" s__law_times) (D__law_num : Def P w K mg base "_law_num" 2 ["_law_field_here", "_law_top", "_law_bottom"] (spNum K)) : Def P w K mg base "_law_times" 3 ["_law_field_here", "_law_one", "_law_other"] (spTwo K mulN) := by
  obtain ⟨f, fd, F, m⟩ := R
  obtain ⟨f__law_num, fd__law_num, G__law_num, m__law_num, k__law_num, b__law_num⟩ := D__law_num
  refine ⟨f, fd, F.ok sc__law_times (fun vs H Q E h => ?_) (fun cdv A outer s H vs Q E hr h => ?_), m, F.kp, F.binds (ps := ["_law_field_here", "_law_one", "_law_other"]) fun _ _ _ _ _ _ us hl => match us, hl with | [_, _, _], _ => rfl⟩
  · exact len_two h

  · obtain ⟨a, x, y, p, r, rfl, hf, ⟨px, rfl, hx⟩, ⟨py, rfl, hy⟩, ⟨np, sp⟩, ⟨nr, sr⟩, q⟩ := h
    refine ⟨_, (pss_cons (ps_if (pt_cmpR op_gt (pv 0) pe_int (nomark _)) (pss_one (ps_ret (pe_tup (pa_cons (pe_op op_mod (pe_op op_mulW (pe_ix ix_tup (pv 1) pe_int (fun _ _ => rfl)) (pe_ix ix_tup (pv 2) pe_int (fun _ _ => rfl))) (pv 0)) (pa_cons pe_int pa_nil))))) pss_nil) (pss_one (ps_ret (pe_call G__law_num (hr.mono (by omega)) (by rfl) m__law_num k__law_num b__law_num .nil pass0 (pa_cons pe_int (pa_cons (pe_op op_mulW (pe_ix ix_tup (pv 1) pe_int (fun _ _ => rfl)) (pe_ix ix_tup (pv 2) pe_int (fun _ _ => rfl))) (pa_cons (pe_op op_mulW (pe_ix ix_tup (pv 1) pe_int (fun _ _ => rfl)) (pe_ix ix_tup (pv 2) pe_int (fun _ _ => rfl))) pa_nil))))))), ?_⟩
    refine ⟨_, rfl, _, _, rfl, rfl, _, rfl, ite2 (fun e => ?_) (fun e => ?_)⟩
    · have e := of_decide_eq_true e
      refine ⟨_, rfl, px, _, _, _, rfl, rfl, hx, at0 _ _, _, rfl, py, _, _, _, rfl, rfl, hy, at0 _ _, _, _, rfl, rfl, wm sp.1 sr.1, _, rfl, _, _, rfl, rfl, e, (by show 2 ≤ sizeLine; decide), fun z hz => ?_⟩
      exact q.new (by unfold mulN; rw [if_pos (by omega)]) hz
    · have e : ¬ 0 < a := fun z => e (decide_eq_true z)
      have e0 : a = 0 := by
        have := hf.nn
        omega
      subst e0
      have hp := np.den.1
      have hr' := nr.den.1
      refine ⟨_, rfl, px, _, _, _, rfl, rfl, hx, at0 _ _, _, rfl, py, _, _, _, rfl, rfl, hy, at0 _ _, _, _, rfl, rfl, wm sp.1 sr.1, ?_⟩
      refine ⟨_, rfl, px, _, _, _, rfl, rfl, hx, at1 _ _, _, rfl, py, _, _, _, rfl, rfl, hy, at1 _ _, _, _, rfl, rfl, wm sp.2 sr.2, ?_⟩
      have hm : p.2 * r.2 ≠ 0 := Int.mul_ne_zero (by omega) (by omega)
      refine ⟨0, _, _, rfl, hf, by rw [nouB0]; exact decide_eq_false hm, fun _ => ⟨big_mul sp.1 sr.1, big_mul sp.2 sr.2⟩, ?_⟩
      exact q
theorem len_oneL {K nz g vs H Q E} (h : spOne K nz g vs H Q E) : vs.length = (["_law_field_here", "_law_number_here"] : List Str).length := by
  obtain ⟨f, x, p, rfl, _⟩ := h
  rfl
open Lin
/-! ## the law's own rows -/
def mulL {f : Int} (F : Fd f) (l : List F.F) (c : F.F) : List F.F := letI := F.fld; l.map fun x => x * c
def addL {f : Int} (F : Fd f) (l m : List F.F) : List F.F := letI := F.fld; List.zipWith (fun x y => x + y) l m
def spLScaled (K : PySem.W.Frag) : Sp := fun vs H Q _ => ∃ (f : Int) (row fac : V) (F : Fd f) (l : List F.F) (c : F.F), vs = [.int f, row, fac] ∧ IsF f ∧ RowT K H F row l ∧ NumV K H fac (F.enc c) ∧ l.length ≤ 1000 ∧ (∀ j, letI := F.fld; Sz6 F (vec l j)) ∧ Sz6 F c ∧ ∀ H' v, Same H H' → RowT K H' F v (mulL F l c) → Q v H'
theorem len__law_scaled {K vs H Q E} (h : spLScaled K vs H Q E) : vs.length = (["_law_field_here", "_law_row_here", "_law_factor"] : List Str).length := by
  obtain ⟨f, r, c, F, l, z, rfl, _⟩ := h
  rfl
def spLAdded (K : PySem.W.Frag) : Sp := fun vs H Q _ => ∃ (f : Int) (row other : V) (F : Fd f) (l m : List F.F), vs = [.int f, row, other] ∧ IsF f ∧ RowT K H F row l ∧ RowT K H F other m ∧ l.length = m.length ∧ l.length ≤ 1000 ∧ (∀ j, letI := F.fld; Sz6 F (vec l j)) ∧ (∀ j, letI := F.fld; Sz6 F (vec m j)) ∧ ∀ H' v, Same H H' → RowT K H' F v (addL F l m) → Q v H'
theorem len__law_added {K vs H Q E} (h : spLAdded K vs H Q E) : vs.length = (["_law_field_here", "_law_row_here", "_law_other"] : List Str).length := by
  obtain ⟨f, r, c, F, l, z, rfl, _⟩ := h
  rfl
open Lin
def spLRow (K : PySem.W.Frag) : Sp := fun vs H Q _ => ∃ (box l : Addr) (f : Int) (w : Nat) (F : Fd f), vs = [.ref box, .int f, .int (w : Nat)] ∧ BoxAt H box l ∧ IsF f ∧ w ≤ 500 ∧ ∀ H' v (ls : List F.F), Stp box l H H' → RowT K H' F v ls → ls.length = w → (∀ x ∈ ls, S99 (F.enc x)) → Q v H'
theorem len__law_row {K vs H Q E} (h : spLRow K vs H Q E) : vs.length = (["_law_box", "_law_field_here", "_law_width"] : List Str).length := by
  obtain ⟨box, l, f, w, F, rfl, _⟩ := h
  rfl
theorem BoxAt.putL {box l D : Addr} {H : Hp} {o : HO} (h : BoxAt H box l) (n1 : D ≠ box) (n2 : D ≠ l) : BoxAt (upd H D o) box l := by
  obtain ⟨ns, i, x, s, c, b1, b2, b3⟩ := h
  refine ⟨ns, i, x, s, c, ?_, ?_, b3⟩
  · rw [upd_ne (fun e => n1 e.symm)]
    exact b1
  · rw [upd_ne (fun e => n2 e.symm)]
    exact b2
theorem d__law_row {P : Program} {w : World} {K : PySem.W.Frag} {mg : Str → Option Value} {base : Heap} (R : Raw K mg "_law_row" s__law_row) (B : Bn mg) (D__law_number : Def P w K mg base "_law_number" 3 ["_law_box", "_law_field_here"] (spNumber K)) : Def P w K mg base "_law_row" 4 ["_law_box", "_law_field_here", "_law_width"] (spLRow K) := by
  obtain ⟨f, fd, F, m⟩ := R
  obtain ⟨f__law_number, fd__law_number, G__law_number, m__law_number, k__law_number, b__law_number⟩ := D__law_number
  refine ⟨f, fd, F.ok sc__law_row (fun vs H Q E h => ?_) (fun cdv A outer s H vs Q E hr h => ?_), m, F.kp, F.binds (ps := ["_law_box", "_law_field_here", "_law_width"]) fun _ _ _ _ _ _ us hl => match us, hl with | [_, _, _], _ => rfl⟩
  · exact len__law_row h

  · obtain ⟨box, l, a, w, F, rfl, hb, hf, w5, q⟩ := h
    refine ⟨_, (pss_one (ps_ret (pe_callTy call_tuple_of (by rfl) B.tuple (by decide +kernel) (pa_cons (pe_lc (own := [("_law_k", 3)]) (g := gName 3) (tt := tYes) rfl sc__law_row.nd (pi_range1 (by rfl) B.range (pa_cons (pv 2) pa_nil)) (blkOk_by (N := ["_law_box", "_law_field_here", "_law_width", "_law_k"]) (sc := defScope s__law_row) (by decide +kernel)) (fun _ _ _ _ _ => pg_name (i := 3) sc__law_row.nd rfl (Or.inl rfl)) (fun _ _ _ _ _ => pts_nil) (fun _ _ _ _ _ => (pe_call G__law_number (hr.mono (by omega)) (by rfl) m__law_number k__law_number b__law_number .nil pass0 (pa_cons (pv 0) (pa_cons (pv 1) pa_nil))))) pa_nil)))), ?_⟩
    refine ⟨_, rfl, (w : Nat), rfl, by omega, by omega, fun D hD => ?_⟩
    have nb : D ≠ box := hb.ne hD
    have nl : D ≠ l := by
      obtain ⟨_, _, _, _, _, _, b2, _⟩ := hb
      exact (ne_of_none b2 hD).symm
    have up : ∀ {H4 : Hp} {o : HO}, Keep box H H4 → Keep box H (upd H4 D o) := fun k b u n e => by
      rw [upd_ne (fun z => by rw [z, hD] at e; cases e)]
      exact k b u n e
    refine lc_range (lo := 0) (n := ((w : Nat) : Int).toNat) (fun i H' => BoxAt H' box l ∧ Keep box H H' ∧ ∃ (zs : List V) (ls : List F.F), H' D = some (.lst zs) ∧ NumsV K H' zs (ls.map F.enc) ∧ ls.length = i ∧ ∀ x ∈ ls, S99 (F.enc x)) ⟨hb.putL nb nl, up (Keep.refl box H), [], [], upd_same, .nil, rfl, (fun x hx => by cases hx)⟩ ?_ ?_
    · rintro i H2 hi ⟨hb2, k2, zs, ls, hz, nz, ll, hs⟩
      refine ⟨rfl, tYes_of (iteT ⟨_, rfl, _, rfl, box, l, a, rfl, hb2, hf, fun H5 v p st hv hN hsm => ?_⟩)⟩
      obtain ⟨x, ex⟩ := F.sur p hN
      have hz5 := st.keep _ _ nb hz
      have nz5 : NumsV K H5 zs (ls.map F.enc) := NumsV.map (fun v q h => h.keep hb2 st.keep) nz
      have lz := nz.len
      rw [List.length_map] at lz
      refine ⟨zs, hz5, small1000 (by omega), st.box.putL nb nl, up (k2.trans st.keep), zs ++ [v], ls ++ [x], upd_same, ?_, by rw [List.length_append, ll]; rfl, fun y hy => ?_⟩
      · rw [List.map_append]
        refine NumsV.map (fun v q h => h.putL hz5) (NumsV.snoc nz5 ?_)
        rw [ex]
        exact hv
      · rcases List.mem_append.mp hy with hy | hy
        · exact hs y hy
        · rw [List.mem_singleton.mp hy]
          show S99 (F.enc x)
          rw [ex]
          exact hsm
    · rintro H2 ⟨hb2, k2, zs, ls, hz, nz, ll, hs⟩
      refine ⟨D, zs, rfl, .inl ⟨SqL.of hz, fun p hp => ?_⟩⟩
      have sp := same_new (o := .tup zs) hp
      exact q _ _ ls ⟨k2.trans (Keep.of sp), hb2.same sp⟩ ⟨p, zs, rfl, SqT.of upd_same, NumsV.same sp nz⟩ (by omega) hs

open Lin
/-! ## webs on the heap -/
/-- tuples stand -/
def Tk (K : PySem.W.Frag) (H H' : Hp) : Prop := ∀ a xs, SqT K H a xs → SqT K H' a xs
section
variable {K : PySem.W.Frag} {H H1 H2 : Hp}
theorem Tk.refl (K : PySem.W.Frag) (H : Hp) : Tk K H H := fun _ _ h => h
theorem Tk.trans (a : Tk K H H1) (b : Tk K H1 H2) : Tk K H H2 := fun p xs h => b p xs (a p xs h)
theorem Tk.same (e : Same H H1) : Tk K H H1 := fun _ _ h => Same.seqT e h
theorem Tk.put {D : Addr} {zs : List V} {o : HO} (h : H D = some (.lst zs)) : Tk K H (upd H D o) := fun _ _ q => SqT.put q h
theorem Tk.keep {box l : Addr} (hb : BoxAt H box l) (e : Keep box H H1) : Tk K H H1 := fun p xs h2 => by
  obtain ⟨ns, i, x, s, c, b1, _⟩ := hb
  rcases h2 with (h | ⟨o, h⟩) | h
  · refine .inl (.inl (e _ _ (fun z => ?_) h))
    rw [z, b1] at h
    cases h
  · refine .inl (.inr ⟨o, e _ _ (fun z => ?_) h⟩)
    rw [z, b1] at h
    cases h
  · exact .inr h
theorem Tk.stp {box l : Addr} (hb : BoxAt H box l) (e : Stp box l H H1) : Tk K H H1 := Tk.keep hb e.keep
theorem NumV.tk {v : V} {q : Pr} (h : NumV K H v q) (t : Tk K H H1) : NumV K H1 v q := by
  obtain ⟨p, h1, h2⟩ := h
  exact ⟨p, h1, t _ _ h2⟩
theorem NumsV.tk {vs : List V} {qs : List Pr} (h : NumsV K H vs qs) (t : Tk K H H1) : NumsV K H1 vs qs := NumsV.map (fun _ _ h => h.tk t) h
theorem RowT.tk {f : Int} {F : Fd f} {v : V} {l : List F.F} (h : RowT K H F v l) (t : Tk K H H1) : RowT K H1 F v l := by
  obtain ⟨p, xs, h1, h2, h3⟩ := h
  exact ⟨p, xs, h1, t _ _ h2, h3.tk t⟩
theorem RTs.tk {f : Int} {F : Fd f} (t : Tk K H H1) : ∀ {xs : List V} {L : List (List F.F)}, RTs K H F xs L → RTs K H1 F xs L
  | _, _, .nil => .nil
  | _, _, .cons g r => .cons (g.tk t) (RTs.tk t r)
end

open Lin
theorem swp_law {f : Int} {F : Fd f} {l m : List F.F} {p : Nat} (h : letI := F.fld; vec l p ≠ 0) : letI := F.fld; letI := F.dec; addL F l (mulL F m (-(vec l p))) = swp l m p := by
  letI := F.fld
  letI := F.dec
  unfold addL mulL swp
  rw [if_neg h, List.zipWith_map_right]
  congr 1
  funext x y
  grind
def spLCleared (K : PySem.W.Frag) : Sp := fun vs H Q _ => ∃ (f : Int) (row own : V) (p : Nat) (F : Fd f) (l m : List F.F), vs = [.int f, row, own, .int (p : Nat)] ∧ IsF f ∧ RowT K H F row l ∧ RowT K H F own m ∧ l.length = m.length ∧ p < l.length ∧ l.length ≤ 1000 ∧
  (∀ j, letI := F.fld; Sz6 F (vec l j)) ∧ (∀ j, letI := F.fld; Sz6 F (vec m j)) ∧ (letI := F.fld; Sz6 F (-(vec l p))) ∧ (∀ j, letI := F.fld; Sz6 F (vec m j * (-(vec l p)))) ∧ ∀ H' v, Same H H' → (letI := F.fld; letI := F.dec; RowT K H' F v (swp l m p)) → Q v H'
theorem len__law_cleared {K vs H Q E} (h : spLCleared K vs H Q E) : vs.length = (["_law_field_here", "_law_row_here", "_law_own", "_law_at"] : List Str).length := by
  obtain ⟨f, row, own, p, F, l, m, rfl, _⟩ := h
  rfl
open Lin
/-! ## the law's own reducing -/
def LayN (n : Nat) (d : PyData) : Prop := d.canLay0 = true ∧ d.depth ≤ n
theorem layAll {n : Nat} : ∀ {ds : List PyData}, (∀ d ∈ ds, LayN n d) → PyData.canLayAll0 ds = true ∧ PyData.depthAll ds ≤ n
  | [], _ => ⟨rfl, Nat.zero_le _⟩
  | d :: ds, h => by
    obtain ⟨h1, h2⟩ := h d (List.mem_cons_self ..)
    obtain ⟨h3, h4⟩ := layAll (ds := ds) fun e he => h e (List.mem_cons_of_mem _ he)
    refine ⟨?_, ?_⟩
    · show (d.canLay0 && PyData.canLayAll0 ds) = true
      rw [h1, h3]
      rfl
    · show max d.depth (PyData.depthAll ds) ≤ n
      omega
theorem lay_list {n : Nat} {ds : List PyData} (h : ∀ d ∈ ds, LayN n d) : LayN (n + 1) (.list ds) := by
  obtain ⟨h1, h2⟩ := layAll h
  exact ⟨h1, by show PyData.depthAll ds + 1 ≤ n + 1; omega⟩
theorem lay_tup {n : Nat} {ds : List PyData} (h : ∀ d ∈ ds, LayN n d) : LayN (n + 1) (.tuple ds) := by
  obtain ⟨h1, h2⟩ := layAll h
  exact ⟨h1, by show PyData.depthAll ds + 1 ≤ n + 1; omega⟩
theorem lay_int (i : Int) : LayN 0 (.int i) := ⟨rfl, Nat.le_refl _⟩
theorem LayN.mono {n m : Nat} {d : PyData} (h : LayN n d) (k : n ≤ m) : LayN m d := ⟨h.1, Nat.le_trans h.2 k⟩
theorem LayN.shaped {n : Nat} {d : PyData} (h : LayN n d) (k : n ≤ 64) : SeqAt.shaped d = true := by
  unfold SeqAt.shaped
  rw [h.1, decide_eq_true (Nat.le_trans h.2 k)]
  rfl
theorem dp_ints {K : PySem.W.Frag} {H : Hp} : ∀ is : List Nat, DpAll K H (is.map fun k : Nat => V.int (k : Int)) (is.map fun k : Nat => PyData.int (k : Int))
  | [] => .nil
  | i :: is => .cons (.int i) (dp_ints is)
theorem lay_ints (is : List Nat) : SeqAt.shaped (.list (is.map fun k : Nat => PyData.int (k : Int))) = true := (lay_list (n := 0) fun d hd => by
  obtain ⟨k, _, rfl⟩ := List.mem_map.mp hd
  exact lay_int _).shaped (by omega)
def filtL {F : Type} [Lean.Grind.Field F] [DecidableEq F] (y : List F) (j : Nat) : List Nat := (List.range j).filter fun k => decide (vec y k ≠ 0)
theorem filtL_succ {F : Type} [Lean.Grind.Field F] [DecidableEq F] (y : List F) (j : Nat) : filtL y (j + 1) = if vec y j ≠ 0 then filtL y j ++ [j] else filtL y j := by
  unfold filtL
  rw [List.range_succ, List.filter_append]
  by_cases h : vec y j ≠ 0
  · rw [if_pos h, List.filter_cons_of_pos (by rw [decide_eq_true h]), List.filter_nil]
  · rw [if_neg h, List.filter_cons_of_neg (by rw [decide_eq_false h]; decide), List.filter_nil, List.append_nil]
theorem filtL_len {F : Type} [Lean.Grind.Field F] [DecidableEq F] (y : List F) (j : Nat) : (filtL y j).length ≤ j := by
  unfold filtL
  have := List.length_filter_le (fun k => decide (vec y k ≠ 0)) (List.range j)
  rw [List.length_range] at this
  exact this
theorem filtL_find {F : Type} [Lean.Grind.Field F] [DecidableEq F] (y : List F) (j : Nat) : (List.range j).find? (fun k => decide (vec y k ≠ 0)) = (filtL y j).head? := (List.head?_filter ..).symm
theorem mulL_scl {f : Int} {F : Fd f} {y : List F.F} {p : Nat} : letI := F.fld; letI := F.dec; mulL F y ((vec y p)⁻¹) = scl y p := by
  letI := F.fld
  letI := F.dec
  unfold mulL scl
  congr 1
  funext x
  grind
theorem take_rev {α : Type} {A : List α} {k : Nat} {d : α} (h : A[k]? = some d) : (A.take (k + 1)).reverse = d :: (A.take k).reverse := by
  rw [List.take_add_one, h]
  simp
theorem RedU.takeR {F : Type} [Lean.Grind.Field F] [DecidableEq F] {A : List (Ll F)} (R : RedU (vecs A)) (k : Nat) : RedU (vecs (A.take k).reverse) := by
  have RR : RedU (vecs A.reverse) := by
    refine R.perm ?_
    show (A.map _).Perm (A.reverse.map _)
    exact (List.reverse_perm A).symm.map _
  have e : (A.take k).reverse = A.reverse.drop (A.length - k) := by
    rw [List.drop_reverse]
    congr 1
    rcases Nat.le_total k A.length with h | h
    · congr 1
      omega
    · rw [List.take_of_length_le h, List.take_of_length_le (by omega)]
  rw [e]
  exact RedU.dropL RR _
/-- pairs with what they stand for -/
theorem PairsT.zip {K : PySem.W.Frag} {H : Hp} {f : Int} {F : Fd f} : ∀ {xs : List V} {A : List (Ll F.F)}, PairsT K H F xs A → (xs.zip A).map (fun z => z.1) = xs ∧ (xs.zip A).map (fun z => z.2) = A ∧ ∀ z ∈ xs.zip A, ∃ t rv, z.1 = .ref t ∧ SqT K H t [.int (z.2.1 : Nat), rv] ∧ RowT K H F rv z.2.2
  | _, _, .nil => ⟨rfl, rfl, (fun z h => by cases h)⟩
  | x :: xs, a :: A, .cons g r => by
    obtain ⟨h1, h2, h3⟩ := PairsT.zip r
    refine ⟨?_, ?_, fun z hz => ?_⟩
    · rw [List.zip_cons_cons, List.map_cons, h1]
    · rw [List.zip_cons_cons, List.map_cons, h2]
    · have hz : z ∈ (x, a) :: xs.zip A := hz
      rcases List.mem_cons.mp hz with rfl | hz
      · exact g
      · exact h3 z hz
theorem pw_inj {α : Type} {g : α → Nat} : ∀ {L : List α} {x y : α}, L.Pairwise (fun a b => g a ≠ g b) → x ∈ L → y ∈ L → g x = g y → x = y
  | z :: L, x, y, h, hx, hy, e => by
    obtain ⟨h1, h2⟩ := List.pairwise_cons.mp h
    rcases List.mem_cons.mp hx with ex | hx'
    · rcases List.mem_cons.mp hy with ey | hy'
      · rw [ex, ey]
      · rw [ex] at e
        exact absurd e (h1 y hy')
    · rcases List.mem_cons.mp hy with ey | hy'
      · rw [ey] at e
        exact absurd e.symm (h1 x hx')
      · exact pw_inj h2 hx' hy' e
theorem pw_and {α : Type} {R S T : α → α → Prop} (i : ∀ a b, R a b → S a b → T a b) : ∀ {L : List α}, L.Pairwise R → L.Pairwise S → L.Pairwise T
  | [], _, _ => .nil
  | x :: L, h, k => by
    obtain ⟨h1, h2⟩ := List.pairwise_cons.mp h
    obtain ⟨k1, k2⟩ := List.pairwise_cons.mp k
    exact List.pairwise_cons.mpr ⟨fun y hy => i _ _ (h1 y hy) (k1 y hy), pw_and i h2 k2⟩
def HtA {f : Int} (F : Fd f) (L : List (List F.F)) (A : Nat → Nat) : Prop := letI := F.fld; ∀ i l, L[i]? = some l → Ht F (A i) (vec l)
/-- rows of which the law's reducing is asked: m bits at most on the way -/
def RedOk (K : PySem.W.Frag) (H : Hp) (f : Int) (F : Fd f) (r : Addr) (L : List (List F.F)) (w m : Nat) : Prop := ∃ (xs : List V) (A S : Nat → Nat) (c : Nat), IsF f ∧ SqL K H r xs ∧ RTs K H F xs L ∧ (∀ l ∈ L, l.length = w) ∧ w ≤ 40 ∧ L.length ≤ 60 ∧ 7 ≤ m ∧ m ≤ 3300 ∧
  HtA F L A ∧ (∀ i, i < L.length → S i = A i + S (i + 1)) ∧ (∀ i, i < L.length → 7 ≤ A i ∧ A i ≤ m) ∧ S 0 + c ≤ m ∧ fact L.length < 2 ^ c
def spLRed (K : PySem.W.Frag) : Sp := fun vs H Q _ => ∃ (f : Int) (r : Addr) (w m : Nat) (F : Fd f) (L : List (List F.F)), vs = [.int f, .ref r, .int (w : Nat)] ∧ RedOk K H f F r L w m ∧
  ∀ H' D ys, Same H H' → H D = none → H' D = some (.lst ys) → (letI := F.fld; letI := F.dec; RTs K H' F ys ((redL w L).map (·.2))) → Q (.ref D) H'
theorem len__law_reduced {K vs H Q E} (h : spLRed K vs H Q E) : vs.length = (["_law_field_here", "_law_rows_here", "_law_width"] : List Str).length := by
  obtain ⟨f, r, w, m, F, L, rfl, _⟩ := h
  rfl
open Lin
/-! ## sums of products -/
def DotOk {f : Int} (F : Fd f) (l c : List F.F) : Prop := letI := F.fld; letI := F.dec; l.length ≤ c.length ∧ l.length ≤ 1000 ∧ (∀ j, Sz6 F (vec l j)) ∧ (∀ j, Sz6 F (vec c j)) ∧ (∀ j, Sz6 F (vec l j * vec c j)) ∧ ∀ k, k ≤ l.length → Sz6 F (dotN l c k)
def spDot (K : PySem.W.Frag) : Sp := fun vs H Q _ => ∃ (f : Int) (row col : V) (F : Fd f) (l c : List F.F), vs = [.int f, row, col] ∧ IsF f ∧ RowT K H F row l ∧ RowT K H F col c ∧ DotOk F l c ∧ ∀ H' v, Same H H' → (letI := F.fld; letI := F.dec; NumV K H' v (F.enc (dotN l c l.length))) → Q v H'
theorem len__law_dot {K vs H Q E} (h : spDot K vs H Q E) : vs.length = (["_law_field_here", "_law_row_here", "_law_column"] : List Str).length := by
  obtain ⟨f, row, col, F, l, c, rfl, _⟩ := h
  rfl
theorem d__law_dot {P : Program} {w : World} {K : PySem.W.Frag} {mg : Str → Option Value} {base : Heap} (R : Raw K mg "_law_dot" s__law_dot) (B : Bn mg) (D__law_plus : Def P w K mg base "_law_plus" 3 ["_law_field_here", "_law_one", "_law_other"] (spTwo K addN)) (D__law_times : Def P w K mg base "_law_times" 3 ["_law_field_here", "_law_one", "_law_other"] (spTwo K mulN)) : Def P w K mg base "_law_dot" 4 ["_law_field_here", "_law_row_here", "_law_column"] (spDot K) := by
  obtain ⟨f, fd, F, m⟩ := R
  obtain ⟨f__law_plus, fd__law_plus, G__law_plus, m__law_plus, k__law_plus, b__law_plus⟩ := D__law_plus
  obtain ⟨f__law_times, fd__law_times, G__law_times, m__law_times, k__law_times, b__law_times⟩ := D__law_times
  refine ⟨f, fd, F.ok sc__law_dot (fun vs H Q E h => ?_) (fun cdv A outer s H vs Q E hr h => ?_), m, F.kp, F.binds (ps := ["_law_field_here", "_law_row_here", "_law_column"]) fun _ _ _ _ _ _ us hl => match us, hl with | [_, _, _], _ => rfl⟩
  · exact len__law_dot h

  · obtain ⟨a, row, col, F, l, c, rfl, hf, hl, hc, ⟨le, l1, b0, b1, b2, b3⟩, q⟩ := h
    letI := F.fld
    letI := F.dec
    refine ⟨_, (pss_cons (ps_set (i := 3) sc__law_dot.nd rfl (Or.inl rfl) (pe_tup (pa_cons pe_int (pa_cons pe_int pa_nil)))) (pss_cons (ps_for PassesOwn.never rfl (pi_range1 (by rfl) B.range (pa_cons (pe_callB call_len_seq (by rfl) B.len PySem.boot_len (pa_cons (pv 1) pa_nil)) pa_nil)) (pg_name (i := 4) sc__law_dot.nd rfl (Or.inl rfl)) (pss_one (ps_set (i := 3) sc__law_dot.nd rfl (Or.inl rfl) (pe_call G__law_plus (hr.mono (by omega)) (by rfl) m__law_plus k__law_plus b__law_plus .nil pass0 (pa_cons (pv 0) (pa_cons (pv 3) (pa_cons (pe_call G__law_times (hr.mono (by omega)) (by rfl) m__law_times k__law_times b__law_times .nil pass0 (pa_cons (pv 0) (pa_cons (pe_ix ix_tup (pv 1) (pv 4) (fun _ _ => rfl)) (pa_cons (pe_ix ix_tup (pv 2) (pv 4) (fun _ _ => rfl)) pa_nil)))) pa_nil))))))) (pss_one (ps_ret (pv 3))))), ?_⟩
    obtain ⟨pa, xs, rfl, hx, hn⟩ := id hl
    obtain ⟨pb, ys, rfl, hy, hk⟩ := id hc
    have lx := hn.len
    rw [List.length_map] at lx
    refine ⟨(by show 2 ≤ sizeLine; decide), fun pz hz => ?_⟩
    have sz := same_new (o := .tup [.int 0, .int 1]) hz
    refine ⟨_, rfl, pa, xs, rfl, .inr (Same.seqT sz hx), (xs.length : Nat), rfl, by omega, by omega, ?_⟩
    refine for_range (lo := 0) (n := ((xs.length : Nat) : Int).toNat) (fun i σ H' => ∃ (v : V) (z4 : Option V), Same H H' ∧ NumV K H' v (F.enc (dotN l c i)) ∧ σ = [some (.int a), some (.ref pa), some (.ref pb), some v, z4]) ?_ ?_ ?_
    · refine ⟨.ref pz, none, sz, ?_, rfl⟩
      show NumV K _ _ (F.enc 0)
      rw [F.zero]
      exact NumV.new 0 1
    · rintro i σ H2 hi ⟨v, z4, s2, hv, rfl⟩
      have hil : i < l.length := by omega
      have e0 : (0 : Int) + (i : Int) = ((i : Nat) : Int) := Int.zero_add _
      rw [e0]
      obtain ⟨x, e3, n2⟩ := hn.pick hil
      obtain ⟨y, e4, n3⟩ := hk.pick (i := i) (by omega)
      refine ⟨_, rfl, _, rfl, _, rfl, _, rfl, _, rfl, pa, xs, _, x, rfl, rfl, Same.seqT s2 hx, atI_nat e3, _, rfl, _, rfl, pb, ys, _, y, rfl, rfl, Same.seqT s2 hy, atI_nat e4, ?_⟩
      refine ⟨a, x, y, F.enc (vec l i), F.enc (vec c i), rfl, hf, n2.same s2, n3.same s2, ⟨F.num _, b0 i⟩, ⟨F.num _, b1 i⟩, fun H3 u3 s3 hu3 => ?_⟩
      have hu3 : NumV K H3 u3 (F.enc (vec l i * vec c i)) := by
        rw [F.mul]
        exact hu3
      refine ⟨a, v, u3, F.enc (dotN l c i), F.enc (vec l i * vec c i), rfl, hf, hv.same s3, hu3, ⟨F.num _, b3 i (by omega)⟩, ⟨F.num _, b2 i⟩, fun H4 u4 s4 hu4 => ?_⟩
      refine ⟨u4, _, s2.trans (s3.trans s4), ?_, rfl⟩
      show NumV K _ _ (F.enc (dotN l c i + vec l i * vec c i))
      rw [F.add]
      exact hu4
    · rintro σ H2 ⟨v, z4, s2, hv, rfl⟩
      have e1 : ((xs.length : Nat) : Int).toNat = l.length := by rw [Int.toNat_natCast]; exact lx
      rw [e1] at hv
      exact ⟨_, rfl, q _ _ s2 hv⟩
def spLed (K : PySem.W.Frag) : Sp := fun vs H Q _ => ∃ (f : Int) (t : Bool) (r : Addr) (xs : List V) (col : V) (F : Fd f) (L : List (List F.F)) (c : List F.F), vs = [.int f, .ref r, col] ∧ IsF f ∧ ZM.Sq t K H r xs ∧ RTs K H F xs L ∧ RowT K H F col c ∧ L.length ≤ 900 ∧ (∀ l ∈ L, DotOk F l c) ∧
  ∀ H' v, Same H H' → (letI := F.fld; letI := F.dec; RowT K H' F v (L.map fun l => dotN l c l.length)) → Q v H'
theorem len__law_led {K vs H Q E} (h : spLed K vs H Q E) : vs.length = (["_law_field_here", "_law_table", "_law_column"] : List Str).length := by
  obtain ⟨f, t, r, xs, col, F, L, c, rfl, _⟩ := h
  rfl
theorem d__law_led {P : Program} {w : World} {K : PySem.W.Frag} {mg : Str → Option Value} {base : Heap} (R : Raw K mg "_law_led" s__law_led) (B : Bn mg) (D__law_dot : Def P w K mg base "_law_dot" 4 ["_law_field_here", "_law_row_here", "_law_column"] (spDot K)) : Def P w K mg base "_law_led" 5 ["_law_field_here", "_law_table_here", "_law_column"] (spLed K) := by
  obtain ⟨f, fd, F, m⟩ := R
  obtain ⟨f__law_dot, fd__law_dot, G__law_dot, m__law_dot, k__law_dot, b__law_dot⟩ := D__law_dot
  refine ⟨f, fd, F.ok sc__law_led (fun vs H Q E h => ?_) (fun cdv A outer s H vs Q E hr h => ?_), m, F.kp, F.binds (ps := ["_law_field_here", "_law_table_here", "_law_column"]) fun _ _ _ _ _ _ us hl => match us, hl with | [_, _, _], _ => rfl⟩
  · exact len__law_led h

  · obtain ⟨a, t, r, xs, col, F, L, c, rfl, hf, hx, hL, hc, l9, hd, q⟩ := h
    letI := F.fld
    letI := F.dec
    refine ⟨_, (pss_one (ps_ret (pe_callTy call_tuple_of (by rfl) B.tuple (by decide +kernel) (pa_cons (pe_lc (own := [("_law_row_here", 3)]) (g := gName 3) (tt := tYes) rfl sc__law_led.nd (ZM.pi_sq (pv 1)) (blkOk_by (N := ["_law_field_here", "_law_table_here", "_law_column", "_law_row_here"]) (sc := defScope s__law_led) (by decide +kernel)) (fun _ _ _ _ _ => pg_name (i := 3) sc__law_led.nd rfl (Or.inl rfl)) (fun _ _ _ _ _ => pts_nil) (fun _ _ _ _ _ => (pe_call G__law_dot (hr.mono (by omega)) (by rfl) m__law_dot k__law_dot b__law_dot .nil pass0 (pa_cons (pv 0) (pa_cons (pv 3) (pa_cons (pv 2) pa_nil)))))) pa_nil)))), ?_⟩
    have lx := hL.len
    refine ⟨_, rfl, t, r, xs, rfl, hx, fun D hD => lc_it (ZM.walkS (xs := xs)) (fun i H' => Same H H' ∧ ∃ zs, H' D = some (.lst zs) ∧ NumsV K H' zs (((L.map fun l => dotN l c l.length).take i).map F.enc)) ⟨same_new hD, [], upd_same, .nil⟩ (fun i H' _ ⟨s, _⟩ => Sq.same s hx) ?_ ?_⟩
    · rintro i x H1 H2 hi0 ⟨s2, zs, hz, nz⟩ ⟨rfl, hi⟩
      obtain ⟨l, hl, hxl⟩ := (hL.same s2).pickV hi
      have hil := (List.getElem?_eq_some_iff.mp hi).1
      refine ⟨rfl, tYes_of (iteT ⟨_, rfl, _, rfl, _, rfl, a, x, col, F, l, c, rfl, hf, hxl, hc.same s2, hd l (List.mem_of_getElem? hl), fun H5 u5 s5 hu5 => ?_⟩)⟩
      have hz5 := s5 _ _ hz
      have lz := nz.len
      rw [List.length_map, List.length_take, List.length_map] at lz
      refine ⟨zs, hz5, small1000 (by omega), same_seqT_upd (s2.trans s5) hD hz5, zs ++ [u5], upd_same, ?_⟩
      have ei : (L.map fun l => dotN l c l.length)[i]? = some (dotN l c l.length) := by
        rw [List.getElem?_map, hl]
        rfl
      rw [List.take_add_one, ei, List.map_append]
      exact NumsV.map (fun v q h => h.putL hz5) (NumsV.snoc (NumsV.same s5 nz) hu5)
    · rintro H2 ⟨s2, zs, hz, nz⟩
      rw [List.take_of_length_le (by rw [List.length_map]; omega)] at nz
      exact ⟨D, zs, rfl, .inl ⟨SqL.of hz, fun p hp => q _ _ (s2.trans (same_new hp)) ⟨p, zs, rfl, SqT.of upd_same, NumsV.same (same_new hp) nz⟩⟩⟩
/-- so many noughts -/
def spNothing (K : PySem.W.Frag) : Sp := fun vs H Q _ => ∃ (w : Nat), vs = [.int (w : Nat)] ∧ w ≤ 1000 ∧ ∀ H' v, Same H H' → (∀ {f : Int} (F : Fd f), letI := F.fld; RowT K H' F v (List.replicate w 0)) → Q v H'
theorem len__law_nothing {K vs H Q E} (h : spNothing K vs H Q E) : vs.length = (["_law_width"] : List Str).length := by
  obtain ⟨w, rfl, _⟩ := h
  rfl
/-! ## _law_like -/
theorem tyT {K : PySem.W.Frag} {H : Hp} {a : Addr} {xs : List V} (h : SqT K H a xs) : TyX K H (.ref a) (.type "tuple") := by
  rcases h with (h | ⟨o, h⟩) | ⟨o, _, _, h1, h2, _⟩
  · exact .base (.tup h)
  · exact .fTuple h
  · exact .kTuple h1 h2
theorem tyL {K : PySem.W.Frag} {H : Hp} {a : Addr} {xs : List V} (h : SqL K H a xs) : TyX K H (.ref a) (.type "list") := by
  rcases h with (h | ⟨o, h⟩) | ⟨o, _, _, h1, h2, _⟩
  · exact .base (.lst h)
  · exact .base (.frz h)
  · exact .kList h1 h2
def spInt : Sp := fun vs H Q _ => ∃ i : Int, vs = [.int i] ∧ Q (.bl true) H
theorem len__law_int {vs H Q E} (h : spInt vs H Q E) : vs.length = (["_law_found"] : List Str).length := by
  obtain ⟨i, rfl, _⟩ := h
  rfl
theorem d__law_int {P : Program} {w : World} {K : PySem.W.Frag} {mg : Str → Option Value} {base : Heap} (R : Raw K mg "_law_int" s__law_int) (B : Bn mg)  : Def P w K mg base "_law_int" 1 ["_law_found"] (spInt) := by
  obtain ⟨f, fd, F, m⟩ := R
  refine ⟨f, fd, F.ok sc__law_int (fun vs H Q E h => ?_) (fun cdv A outer s H vs Q E hr h => ?_), m, F.kp, F.binds (ps := ["_law_found"]) fun _ _ _ _ _ _ us hl => match us, hl with | [_], _ => rfl⟩
  · exact len__law_int h

  · obtain ⟨i, rfl, q⟩ := h
    refine ⟨_, (pss_one (ps_ret (pe_and (pe_callB call_isi (by rfl) B.isinstance (by decide +kernel) (pa_cons (pv 0) (pa_cons (pe_bltn (v := .ty "int") (by rfl) B.int (by decide +kernel) rfl) pa_nil))) (pe_one (pe_not (pe_callB call_isi (by rfl) B.isinstance (by decide +kernel) (pa_cons (pv 0) (pa_cons (pe_bltn (v := .ty "bool") (by rfl) B.bool (by decide +kernel) rfl) pa_nil)))))))), ?_⟩
    refine ⟨_, rfl, _, _, _, _, true, rfl, .ty _, .base (.int i), kit_ty (by decide +kernel), true, rfl, iteT ?_⟩
    exact ⟨_, rfl, _, _, _, _, false, rfl, .ty _, .base (.int i), kit_ty (by decide +kernel), false, rfl, q⟩
/-- data of a depth, its lists not too long -/
def okD : Nat → PyData → Prop
  | _, .none => True
  | _, .bool _ => True
  | _, .int _ => True
  | _, .str _ => True
  | n + 1, .list ds => ds.length ≤ 1000 ∧ ∀ d, d ∈ ds → okD n d
  | n + 1, .tuple ds => ds.length ≤ 1000 ∧ ∀ d, d ∈ ds → okD n d
  | _, _ => False
/-- the two hold the same data -/
def spLike (K : PySem.W.Frag) (n : Nat) : Sp := fun vs H Q _ => ∃ (x y : V) (d : PyData), vs = [x, y] ∧ Dp K H x d ∧ Dp K H y d ∧ okD n d ∧ ∀ H', Same H H' → Q (.bl true) H'
theorem len__law_like {K n vs H Q E} (h : spLike K n vs H Q E) : vs.length = (["_law_found", "_law_due"] : List Str).length := by
  obtain ⟨x, y, d, rfl, _⟩ := h
  rfl
theorem DpAll.get {K : PySem.W.Frag} {H : Hp} : ∀ {vs : List V} {ds : List PyData} {i : Nat}, DpAll K H vs ds → i < ds.length → ∃ v d, vs[i]? = some v ∧ ds[i]? = some d ∧ Dp K H v d
  | _, _, _, .nil, h => by cases h
  | _, _, 0, .cons r _, _ => ⟨_, _, rfl, rfl, r⟩
  | _, _, i + 1, .cons _ t, h => by
    obtain ⟨v, d, h1, h2, h3⟩ := DpAll.get (i := i) t (Nat.lt_of_succ_lt_succ h)
    exact ⟨v, d, h1, h2, h3⟩
theorem DpAll.length {K : PySem.W.Frag} {H : Hp} : ∀ {vs : List V} {ds : List PyData}, DpAll K H vs ds → vs.length = ds.length
  | _, _, .nil => rfl
  | _, _, .cons _ t => congrArg Nat.succ (DpAll.length t)
mutual
theorem Dp.same {K : PySem.W.Frag} {H H' : Hp} (s : Same H H') : ∀ {v : V} {d : PyData}, Dp K H v d → Dp K H' v d
  | _, _, .non => .non
  | _, _, .bl b => .bl b
  | _, _, .int i => .int i
  | _, _, .str x => .str x
  | _, _, .lst h a => .lst (s.seq h) (DpAll.same s a)
  | _, _, .tup h a => .tup (Same.seqT s h) (DpAll.same s a)
theorem DpAll.same {K : PySem.W.Frag} {H H' : Hp} (s : Same H H') : ∀ {vs : List V} {ds : List PyData}, DpAll K H vs ds → DpAll K H' vs ds
  | _, _, .nil => .nil
  | _, _, .cons r t => .cons (Dp.same s r) (DpAll.same s t)
end
theorem like_ok {P : Program} {w : World} {K : PySem.W.Frag} {mg : Str → Option Value} {base : Heap} {f : Addr} {fd : FuncData} (F : Fun K "_law_like" "_law_like" s__law_like f fd) (m__law_like : mg "_law_like" = some (.ref f)) (B : Bn mg)
    (D__law_int : Def P w K mg base "_law_int" 1 ["_law_found"] spInt) : ∀ n, FnOk P w K mg base CX0 (n + 2) f fd ["_law_found", "_law_due"] (spLike K n) := by
  obtain ⟨f__law_int, fd__law_int, G__law_int, m__law_int, k__law_int, b__law_int⟩ := D__law_int
  have b__law_like := F.binds (ps := ["_law_found", "_law_due"]) fun _ _ _ _ _ _ us hl => match us, hl with | [_, _], _ => rfl
  have k__law_like := F.kp
  have run : ∀ n (spL : Sp) (E1 : ∀ vs H Q E, spL vs H Q E → spL vs H Q E), (n = 0 ∨ ∃ m, n = m + 1 ∧ spL = spLike K m) → FnOk P w K mg base CX0 (n + 1) f fd ["_law_found", "_law_due"] spL → FnOk P w K mg base CX0 (n + 2) f fd ["_law_found", "_law_due"] (spLike K n) := by
    intro n spL _ hn G__law_like
    refine F.ok sc__law_like (fun vs H Q E h => len__law_like h) (fun cdv A outer s H vs Q E hr h => ?_)
    obtain ⟨x, y, d, rfl, hx, hy, hd, q⟩ := h
    refine ⟨_, (pss_cons (ps_if (pt_cmpR op_isN (pv 1) pe_non (nomark _)) (pss_one (ps_ret (pe_cmpR op_isN (pv 0) pe_non (nomark _)))) pss_nil) (pss_cons (ps_if (pt_val (pe_callB call_isi (by rfl) B.isinstance (by decide +kernel) (pa_cons (pv 1) (pa_cons (pe_bltn (v := .ty "bool") (by rfl) B.bool (by decide +kernel) rfl) pa_nil)))) (pss_one (ps_ret (pe_and (pe_callB call_isi (by rfl) B.isinstance (by decide +kernel) (pa_cons (pv 0) (pa_cons (pe_bltn (v := .ty "bool") (by rfl) B.bool (by decide +kernel) rfl) pa_nil))) (pe_one (pe_cmpR op_eq (pv 0) (pv 1) (nomark _)))))) pss_nil) (pss_cons (ps_if (pt_val (pe_callB call_isi (by rfl) B.isinstance (by decide +kernel) (pa_cons (pv 1) (pa_cons (pe_bltn (v := .ty "int") (by rfl) B.int (by decide +kernel) rfl) pa_nil)))) (pss_one (ps_ret (pe_and (pe_call G__law_int (hr.mono (by omega)) (by rfl) m__law_int k__law_int b__law_int .nil pass0 (pa_cons (pv 0) pa_nil)) (pe_one (pe_cmpR op_eq (pv 0) (pv 1) (nomark _)))))) pss_nil) (pss_cons (ps_if (pt_val (pe_callB call_isi (by rfl) B.isinstance (by decide +kernel) (pa_cons (pv 1) (pa_cons (pe_bltn (v := .ty "str") (by rfl) B.str (by decide +kernel) rfl) pa_nil)))) (pss_one (ps_ret (pe_and (pe_callB call_isi (by rfl) B.isinstance (by decide +kernel) (pa_cons (pv 0) (pa_cons (pe_bltn (v := .ty "str") (by rfl) B.str (by decide +kernel) rfl) pa_nil))) (pe_one (pe_cmpR op_eq (pv 0) (pv 1) (nomark _)))))) pss_nil) (pss_cons (ps_if (PW.pt (pw_or (pt_cmpR op_ne (pe_callB call_isi (by rfl) B.isinstance (by decide +kernel) (pa_cons (pv 1) (pa_cons (pe_bltn (v := .ty "tuple") (by rfl) B.tuple (by decide +kernel) rfl) pa_nil))) (pe_callB call_isi (by rfl) B.isinstance (by decide +kernel) (pa_cons (pv 0) (pa_cons (pe_bltn (v := .ty "tuple") (by rfl) B.tuple (by decide +kernel) rfl) pa_nil))) (nomark _)) (pw_or1 (pt_cmpR op_ne (pe_callB call_isi (by rfl) B.isinstance (by decide +kernel) (pa_cons (pv 1) (pa_cons (pe_bltn (v := .ty "list") (by rfl) B.list (by decide +kernel) rfl) pa_nil))) (pe_callB call_isi (by rfl) B.isinstance (by decide +kernel) (pa_cons (pv 0) (pa_cons (pe_bltn (v := .ty "list") (by rfl) B.list (by decide +kernel) rfl) pa_nil))) (nomark _))))) (pss_one (ps_ret pe_bl)) pss_nil) (pss_one (ps_ret (pe_and (pe_cmpR op_eq (pe_callB call_len_seq (by rfl) B.len PySem.boot_len (pa_cons (pv 0) pa_nil)) (pe_callB call_len_seq (by rfl) B.len PySem.boot_len (pa_cons (pv 1) pa_nil)) (nomark _)) (pe_one (pe_callB (cr_all rfl) (by rfl) B.all (by decide +kernel) (pa_cons (pe_lc (own := [("_law_k", 2)]) (g := gName 2) (tt := tYes) rfl sc__law_like.nd (pi_range1 (by rfl) B.range (pa_cons (pe_callB call_len_seq (by rfl) B.len PySem.boot_len (pa_cons (pv 1) pa_nil)) pa_nil)) (blkOk_by (N := ["_law_found", "_law_due", "_law_k"]) (sc := defScope s__law_like) (by decide +kernel)) (fun _ _ _ _ _ => pg_name (i := 2) sc__law_like.nd rfl (Or.inl rfl)) (fun _ _ _ _ _ => pts_nil) (fun _ _ _ _ _ => (pe_call G__law_like (hr.mono (by omega)) (by rfl) m__law_like k__law_like b__law_like .nil pass0 (pa_cons (pe_ix (show IxR _ (rIx K) from ix_seq) (pv 0) (pv 2) (fun _ _ => rfl)) (pa_cons (pe_ix (show IxR _ (rIx K) from ix_seq) (pv 1) (pv 2) (fun _ _ => rfl)) pa_nil))))) pa_nil))))))))))), ?_⟩
    have sameQ : Q (.bl true) H := q H (Same.refl H)
    cases hx with
    | non =>
      cases hy
      exact ⟨_, rfl, rfl, _, rfl, iteT ⟨_, rfl, rfl, sameQ⟩⟩
    | bl b =>
      cases hy
      refine ⟨_, rfl, rfl, _, rfl, iteF ?_⟩
      refine ⟨_, rfl, _, _, _, _, true, rfl, .ty _, .base (.bl b), kit_ty (by decide +kernel), true, rfl, iteT ?_⟩
      refine ⟨_, rfl, _, _, _, _, true, rfl, .ty _, .base (.bl b), kit_ty (by decide +kernel), true, rfl, iteT ?_⟩
      refine ⟨_, rfl, _, rfl, rfl, ?_⟩
      rw [decide_eq_true rfl]
      exact sameQ
    | int i =>
      cases hy
      refine ⟨_, rfl, rfl, _, rfl, iteF ?_⟩
      refine ⟨_, rfl, _, _, _, _, false, rfl, .ty _, .base (.int i), kit_ty (by decide +kernel), false, rfl, iteF ?_⟩
      refine ⟨_, rfl, _, _, _, _, true, rfl, .ty _, .base (.int i), kit_ty (by decide +kernel), true, rfl, iteT ?_⟩
      refine ⟨_, rfl, i, rfl, true, rfl, iteT ?_⟩
      refine ⟨_, rfl, _, rfl, rfl, ?_⟩
      rw [decide_eq_true rfl]
      exact sameQ
    | str z =>
      cases hy
      refine ⟨_, rfl, rfl, _, rfl, iteF ?_⟩
      refine ⟨_, rfl, _, _, _, _, false, rfl, .ty _, .base (.str z), kit_ty (by decide +kernel), false, rfl, iteF ?_⟩
      refine ⟨_, rfl, _, _, _, _, false, rfl, .ty _, .base (.str z), kit_ty (by decide +kernel), false, rfl, iteF ?_⟩
      refine ⟨_, rfl, _, _, _, _, true, rfl, .ty _, .base (.str z), kit_ty (by decide +kernel), true, rfl, iteT ?_⟩
      refine ⟨_, rfl, _, _, _, _, true, rfl, .ty _, .base (.str z), kit_ty (by decide +kernel), true, rfl, iteT ?_⟩
      refine ⟨_, rfl, _, rfl, rfl, ?_⟩
      rw [decide_eq_true rfl]
      exact sameQ
    | @lst a xs ds hA aA =>
      cases hy with
      | @lst b ys _ hB aB =>
      cases n with
      | zero => exact hd.elim
      | succ n =>
      obtain ⟨hlen, hall⟩ := hd
      obtain ⟨m, em, rfl⟩ := hn.resolve_left (by simp)
      have em : n = m := Nat.succ.inj em
      subst em
      have lx := DpAll.length aA
      have ly := DpAll.length aB
      refine ⟨_, rfl, rfl, _, rfl, iteF ?_⟩
      refine ⟨_, rfl, _, _, _, _, false, rfl, .ty _, tyL hB, kit_ty (by decide +kernel), false, rfl, iteF ?_⟩
      refine ⟨_, rfl, _, _, _, _, false, rfl, .ty _, tyL hB, kit_ty (by decide +kernel), false, rfl, iteF ?_⟩
      refine ⟨_, rfl, _, _, _, _, false, rfl, .ty _, tyL hB, kit_ty (by decide +kernel), false, rfl, iteF ?_⟩
      refine ⟨_, rfl, _, _, _, _, false, rfl, .ty _, tyL hB, kit_ty (by decide +kernel), _, rfl, _, _, _, _, false, rfl, .ty _, tyL hA, kit_ty (by decide +kernel), rfl, _, rfl, iteF ?_⟩
      refine ⟨_, rfl, _, _, _, _, true, rfl, .ty _, tyL hB, kit_ty (by decide +kernel), _, rfl, _, _, _, _, true, rfl, .ty _, tyL hA, kit_ty (by decide +kernel), rfl, _, rfl, iteF ?_⟩
      refine ⟨_, rfl, a, _, rfl, .inl hA, _, rfl, b, _, rfl, .inl hB, rfl, true, ?_, iteT ?_⟩
      · rw [lx, ly]
        rw [decide_eq_true rfl]
      refine ⟨_, rfl, b, _, rfl, .inl hB, (ys.length : Int), rfl, by omega, by omega, fun D hD => ?_⟩
      refine lc_range (lo := 0) (n := (ys.length : Int).toNat) (fun i H' => Same H H' ∧ H' D = some (.lst (List.replicate i (V.bl true)))) ⟨same_new hD, upd_same⟩ ?_ ?_
      · rintro i H' hi ⟨s1, hD'⟩
        have hi2 : i < ds.length := by
          rw [Int.toNat_natCast] at hi
          omega
        obtain ⟨vx, d1, ex1, ed1, r1⟩ := DpAll.get aA hi2
        obtain ⟨vy, d2, ey2, ed2, r2⟩ := DpAll.get aB hi2
        have e12 : d1 = d2 := Option.some.inj (ed1.symm.trans ed2)
        subst e12
        refine ⟨rfl, tYes_of (iteT ?_)⟩
        have ei : (0 : Int) + (i : Int) = ((i : Nat) : Int) := by omega
        refine ⟨_, rfl, _, rfl, .inl ⟨a, _, _, _, rfl, rfl, s1.seq hA, by rw [ei]; exact atI_nat ex1, ?_⟩⟩
        refine ⟨_, rfl, _, rfl, .inl ⟨b, _, _, _, rfl, rfl, s1.seq hB, by rw [ei]; exact atI_nat ey2, ?_⟩⟩
        refine ⟨_, _, d1, rfl, Dp.same s1 r1, Dp.same s1 r2, hall d1 (List.mem_of_getElem? ed1), fun H2 s2 => ?_⟩
        refine ⟨_, s2 _ _ hD', by rw [List.length_replicate]; exact small1000 (by omega), same_seqT_upd (s1.trans s2) hD (s2 _ _ hD'), ?_⟩
        rw [upd_same, List.replicate_succ']
      · rintro H' ⟨s1, hD'⟩
        refine ⟨D, List.replicate (ys.length : Int).toNat true, rfl, ?_, ?_⟩
        · rw [List.map_replicate]
          exact SqL.of hD'
        · have e : (List.replicate (ys.length : Int).toNat true).all id = true := by simp
          rw [e]
          exact q H' s1
    | @tup a xs ds hA aA =>
      cases hy with
      | @tup b ys _ hB aB =>
      cases n with
      | zero => exact hd.elim
      | succ n =>
      obtain ⟨hlen, hall⟩ := hd
      obtain ⟨m, em, rfl⟩ := hn.resolve_left (by simp)
      have em : n = m := Nat.succ.inj em
      subst em
      have lx := DpAll.length aA
      have ly := DpAll.length aB
      refine ⟨_, rfl, rfl, _, rfl, iteF ?_⟩
      refine ⟨_, rfl, _, _, _, _, false, rfl, .ty _, tyT hB, kit_ty (by decide +kernel), false, rfl, iteF ?_⟩
      refine ⟨_, rfl, _, _, _, _, false, rfl, .ty _, tyT hB, kit_ty (by decide +kernel), false, rfl, iteF ?_⟩
      refine ⟨_, rfl, _, _, _, _, false, rfl, .ty _, tyT hB, kit_ty (by decide +kernel), false, rfl, iteF ?_⟩
      refine ⟨_, rfl, _, _, _, _, true, rfl, .ty _, tyT hB, kit_ty (by decide +kernel), _, rfl, _, _, _, _, true, rfl, .ty _, tyT hA, kit_ty (by decide +kernel), rfl, _, rfl, iteF ?_⟩
      refine ⟨_, rfl, _, _, _, _, false, rfl, .ty _, tyT hB, kit_ty (by decide +kernel), _, rfl, _, _, _, _, false, rfl, .ty _, tyT hA, kit_ty (by decide +kernel), rfl, _, rfl, iteF ?_⟩
      refine ⟨_, rfl, a, _, rfl, .inr hA, _, rfl, b, _, rfl, .inr hB, rfl, true, ?_, iteT ?_⟩
      · rw [lx, ly]
        rw [decide_eq_true rfl]
      refine ⟨_, rfl, b, _, rfl, .inr hB, (ys.length : Int), rfl, by omega, by omega, fun D hD => ?_⟩
      refine lc_range (lo := 0) (n := (ys.length : Int).toNat) (fun i H' => Same H H' ∧ H' D = some (.lst (List.replicate i (V.bl true)))) ⟨same_new hD, upd_same⟩ ?_ ?_
      · rintro i H' hi ⟨s1, hD'⟩
        have hi2 : i < ds.length := by
          rw [Int.toNat_natCast] at hi
          omega
        obtain ⟨vx, d1, ex1, ed1, r1⟩ := DpAll.get aA hi2
        obtain ⟨vy, d2, ey2, ed2, r2⟩ := DpAll.get aB hi2
        have e12 : d1 = d2 := Option.some.inj (ed1.symm.trans ed2)
        subst e12
        refine ⟨rfl, tYes_of (iteT ?_)⟩
        have ei : (0 : Int) + (i : Int) = ((i : Nat) : Int) := by omega
        refine ⟨_, rfl, _, rfl, .inr (.inl ⟨a, _, _, _, rfl, rfl, Same.seqT s1 hA, by rw [ei]; exact atI_nat ex1, ?_⟩)⟩
        refine ⟨_, rfl, _, rfl, .inr (.inl ⟨b, _, _, _, rfl, rfl, Same.seqT s1 hB, by rw [ei]; exact atI_nat ey2, ?_⟩)⟩
        refine ⟨_, _, d1, rfl, Dp.same s1 r1, Dp.same s1 r2, hall d1 (List.mem_of_getElem? ed1), fun H2 s2 => ?_⟩
        refine ⟨_, s2 _ _ hD', by rw [List.length_replicate]; exact small1000 (by omega), same_seqT_upd (s1.trans s2) hD (s2 _ _ hD'), ?_⟩
        rw [upd_same, List.replicate_succ']
      · rintro H' ⟨s1, hD'⟩
        refine ⟨D, List.replicate (ys.length : Int).toNat true, rfl, ?_, ?_⟩
        · rw [List.map_replicate]
          exact SqL.of hD'
        · have e : (List.replicate (ys.length : Int).toNat true).all id = true := by simp
          rw [e]
          exact q H' s1
  intro n
  induction n with
  | zero => exact run 0 (fun _ _ _ _ => False) (fun _ _ _ _ h => h) (.inl rfl) (F.ok sc__law_like (fun _ _ _ _ h => h.elim) (fun _ _ _ _ _ _ _ _ _ h => h.elim))
  | succ n ih => exact run (n + 1) (spLike K n) (fun _ _ _ _ h => h) (.inr ⟨n, rfl, rfl⟩) ih

open Lin
/-! ## rows as data -/
def numD (q : Pr) : PyData := .tuple [.int q.1, .int q.2]
def rowD {f : Int} (F : Fd f) (l : List F.F) : PyData := .tuple (l.map fun x => numD (F.enc x))
section
variable {K : PySem.W.Frag} {H : Hp} {f : Int} {F : Fd f}
theorem dp_nums : ∀ {vs : List V} {l : List F.F}, NumsV K H vs (l.map F.enc) → DpAll K H vs (l.map fun x => numD (F.enc x))
  | _, [], h => by
    cases h
    exact .nil
  | _, x :: l, h => by
    cases h with
    | cons g r => exact .cons (dp_num g) (dp_nums r)
theorem RowT.dp {v : V} {l : List F.F} (h : RowT K H F v l) : Dp K H v (rowD F l) := by
  obtain ⟨a, xs, rfl, h1, h2⟩ := h
  exact .tup h1 (dp_nums h2)
theorem RTs.dp : ∀ {xs : List V} {L : List (List F.F)}, RTs K H F xs L → DpAll K H xs (L.map (rowD F))
  | _, _, .nil => .nil
  | _, _, .cons g r => .cons g.dp (RTs.dp r)
end
theorem ok_row {f : Int} {F : Fd f} {l : List F.F} (h : l.length ≤ 1000) : okD 2 (rowD F l) := by
  refine ⟨by rw [List.length_map]; exact h, fun d hd => ?_⟩
  obtain ⟨x, _, rfl⟩ := List.mem_map.mp hd
  refine ⟨(by show 2 ≤ 1000; decide), fun e he => ?_⟩
  rcases List.mem_cons.mp he with rfl | he
  · trivial
  · rw [List.mem_singleton.mp he]
    trivial
theorem ok_rows {f : Int} {F : Fd f} {L : List (List F.F)} (h : L.length ≤ 1000) (hl : ∀ l ∈ L, l.length ≤ 1000) : okD 3 (.list (L.map (rowD F))) := by
  refine ⟨by rw [List.length_map]; exact h, fun d hd => ?_⟩
  obtain ⟨x, hx, rfl⟩ := List.mem_map.mp hd
  exact ok_row (hl x hx)
theorem lay_num (q : Pr) : LayN 1 (numD q) := lay_tup fun d hd => by
  rcases List.mem_cons.mp hd with rfl | hd
  · exact lay_int _
  · rw [List.mem_singleton.mp hd]
    exact lay_int _
theorem lay_row {f : Int} {F : Fd f} (l : List F.F) : LayN 2 (rowD F l) := lay_tup fun d hd => by
  obtain ⟨x, _, rfl⟩ := List.mem_map.mp hd
  exact lay_num _
theorem lay_rows {f : Int} {F : Fd f} (L : List (List F.F)) : LayN 3 (.list (L.map (rowD F))) := lay_list fun d hd => by
  obtain ⟨x, _, rfl⟩ := List.mem_map.mp hd
  exact lay_row _
mutual
theorem eqv_self : ∀ d : PyData, d.canLay0 = true → PyData.eqv d d = true
  | .none, _ => rfl
  | .bool b, _ => by cases b <;> rfl
  | .int i, _ => by show (i == i) = true; simp
  | .str x, h => by show (x == x) = true; simp
  | .list xs, h => eqv_selfs xs h
  | .tuple xs, h => eqv_selfs xs h
  | .dict _, h => by cases h
theorem eqv_selfs : ∀ ds : List PyData, PyData.canLayAll0 ds = true → PyData.eqvAll ds ds = true
  | [], _ => rfl
  | d :: ds, h => by
    have h : (d.canLay0 && PyData.canLayAll0 ds) = true := h
    rw [Bool.and_eq_true] at h
    show (PyData.eqv d d && PyData.eqvAll ds ds) = true
    rw [eqv_self d h.1, eqv_selfs ds h.2]
    rfl
end

open Lin
/-! ## k02's own helpers -/
def spLIsN (K : PySem.W.Frag) : Sp := fun vs H Q _ => ∃ (f : Int) (x : V) (p : Pr), vs = [.int f, x] ∧ 0 ≤ f ∧ NumV K H x p ∧ Q (.bl (isNB f p)) H
theorem len__law_is_number {K vs H Q E} (h : spLIsN K vs H Q E) : vs.length = (["_law_field_here", "_law_number_here"] : List Str).length := by
  obtain ⟨f, x, p, rfl, _⟩ := h
  rfl
theorem d__law_is_number {P : Program} {w : World} {K : PySem.W.Frag} {mg : Str → Option Value} {base : Heap} (R : Raw K mg "_law_is_number" s__law_is_number) (D__law_gcd : Def P w K mg base "_law_gcd" 1 ["_law_one", "_law_other"] (spGcd)) : Def P w K mg base "_law_is_number" 2 ["_law_field_here", "_law_number_here"] (spLIsN K) := by
  obtain ⟨f, fd, F, m⟩ := R
  obtain ⟨f__law_gcd, fd__law_gcd, G__law_gcd, m__law_gcd, k__law_gcd, b__law_gcd⟩ := D__law_gcd
  refine ⟨f, fd, F.ok sc__law_is_number (fun vs H Q E h => ?_) (fun cdv A outer s H vs Q E hr h => ?_), m, F.kp, F.binds (ps := ["_law_field_here", "_law_number_here"]) fun _ _ _ _ _ _ us hl => match us, hl with | [_, _], _ => rfl⟩
  · exact len__law_is_number h

  · obtain ⟨a, x, p, rfl, h0, ⟨px, rfl, hx⟩, q⟩ := h
    refine ⟨_, (pss_cons (ps_if (pt_cmpR op_gt (pv 0) pe_int (nomark _)) (pss_one (ps_ret (pe_and (pe_cmpR op_eq (pe_ix ix_tup (pv 1) pe_int (fun _ _ => rfl)) pe_int (nomark _)) (pe_one (pe_chain op_le op_lt pe_int (pe_ix ix_tup (pv 1) pe_int (fun _ _ => rfl)) (pv 0)))))) pss_nil) (pss_one (ps_ret (pe_and (pe_cmpR op_gt (pe_ix ix_tup (pv 1) pe_int (fun _ _ => rfl)) pe_int (nomark _)) (pe_one (pe_cmpR op_eq (pe_call G__law_gcd (hr.mono (by omega)) (by rfl) m__law_gcd k__law_gcd b__law_gcd .nil pass0 (pa_cons (pe_ix ix_tup (pv 1) pe_int (fun _ _ => rfl)) (pa_cons (pe_ix ix_tup (pv 1) pe_int (fun _ _ => rfl)) pa_nil))) pe_int (nomark _))))))), ?_⟩
    refine ⟨_, rfl, _, _, rfl, rfl, _, rfl, ite2 (fun e => ?_) (fun e => ?_)⟩
    · have e := of_decide_eq_true e
      have q : Q (.bl (decide (p.2 = 1) && (decide (0 ≤ p.1) && decide (p.1 < a)))) H := by
        have q := q
        unfold isNB at q
        rw [if_neg (by omega)] at q
        exact q
      refine ⟨_, rfl, px, _, _, _, rfl, rfl, hx, at1 _ _, rfl, _, rfl, ?_⟩
      rw [decI]
      refine ite2 (fun e => ?_) (fun e => ?_)
      · rw [e, Bool.true_and] at q
        refine ⟨_, rfl, px, _, _, _, rfl, rfl, hx, at0 _ _, _, _, rfl, rfl, _, rfl, ite2 (fun e => ?_) (fun e => ?_)⟩
        · rw [e, Bool.true_and] at q
          exact ⟨_, rfl, _, _, rfl, rfl, q⟩
        · rw [eq_false_of_ne_true e, Bool.false_and] at q
          exact q
      · rw [eq_false_of_ne_true e, Bool.false_and] at q
        exact q
    · have e : ¬ 0 < a := fun z => e (decide_eq_true z)
      have e0 : a = 0 := by omega
      subst e0
      have q : Q (.bl (decide (0 < p.2) && decide (((Nat.gcd p.1.natAbs p.2.natAbs : Nat) : Int) = 1))) H := by
        have e1 : decide (0 < p.2) = decide (1 ≤ p.2) := by
          by_cases h : 0 < p.2
          · rw [decide_eq_true h, decide_eq_true (show 1 ≤ p.2 by omega)]
          · rw [decide_eq_false h, decide_eq_false (show ¬ 1 ≤ p.2 by omega)]
        rw [e1]
        exact q
      refine ⟨_, rfl, px, _, _, _, rfl, rfl, hx, at1 _ _, _, _, rfl, rfl, _, rfl, ite2 (fun e => ?_) (fun e => ?_)⟩
      · rw [e, Bool.true_and] at q
        refine ⟨_, rfl, px, _, _, _, rfl, rfl, hx, at0 _ _, _, rfl, px, _, _, _, rfl, rfl, hx, at1 _ _, _, _, rfl, rfl, ?_⟩
        rw [decI]
        exact q
      · rw [eq_false_of_ne_true e, Bool.false_and] at q
        exact q

open Lin
def spNumbs (K : PySem.W.Frag) : Sp := fun vs H Q _ => ∃ (v : V) (f : Int) (F : Fd f) (l : List F.F), vs = [v, .int f] ∧ IsF f ∧ RowT K H F v l ∧ Q (.bl true) H
theorem len__law_numbers {K vs H Q E} (h : spNumbs K vs H Q E) : vs.length = (["_law_found", "_law_field_here"] : List Str).length := by
  obtain ⟨v, f, F, l, rfl, _⟩ := h
  rfl
theorem d__law_numbers {P : Program} {w : World} {K : PySem.W.Frag} {mg : Str → Option Value} {base : Heap} (R : Raw K mg "_law_numbers" s__law_numbers) (B : Bn mg) (D__law_int : Def P w K mg base "_law_int" 1 ["_law_found"] (spInt)) (D__law_is_number : Def P w K mg base "_law_is_number" 2 ["_law_field_here", "_law_number_here"] (spLIsN K)) : Def P w K mg base "_law_numbers" 3 ["_law_found", "_law_field_here"] (spNumbs K) := by
  obtain ⟨f, fd, F, m⟩ := R
  obtain ⟨f__law_int, fd__law_int, G__law_int, m__law_int, k__law_int, b__law_int⟩ := D__law_int
  obtain ⟨f__law_is_number, fd__law_is_number, G__law_is_number, m__law_is_number, k__law_is_number, b__law_is_number⟩ := D__law_is_number
  refine ⟨f, fd, F.ok sc__law_numbers (fun vs H Q E h => ?_) (fun cdv A outer s H vs Q E hr h => ?_), m, F.kp, F.binds (ps := ["_law_found", "_law_field_here"]) fun _ _ _ _ _ _ us hl => match us, hl with | [_, _], _ => rfl⟩
  · exact len__law_numbers h

  · obtain ⟨v, a, F, ls, rfl, hf, ⟨pa, xs, rfl, hx, hn⟩, q⟩ := h
    letI := F.fld
    letI := F.dec
    refine ⟨_, (pss_cons (ps_if (pt_not (pt_val (pe_callB call_isi (by rfl) B.isinstance (by decide +kernel) (pa_cons (pv 0) (pa_cons (pe_bltn (v := .ty "tuple") (by rfl) B.tuple (by decide +kernel) rfl) pa_nil))))) (pss_one (ps_ret pe_bl)) pss_nil) (pss_cons (ps_for PassesOwn.never rfl (pi_tup (pv 0)) (pg_name (i := 2) sc__law_numbers.nd rfl (Or.inl rfl)) (pss_cons (ps_if (PW.pt (pw_or (pt_not (pt_val (pe_callB call_isi (by rfl) B.isinstance (by decide +kernel) (pa_cons (pv 2) (pa_cons (pe_bltn (v := .ty "tuple") (by rfl) B.tuple (by decide +kernel) rfl) pa_nil))))) (pw_or1 (pt_cmpR op_ne (pe_callB call_len_seq (by rfl) B.len PySem.boot_len (pa_cons (pv 2) pa_nil)) pe_int (nomark _))))) (pss_one (ps_ret pe_bl)) pss_nil) (pss_one (ps_if (PW.pt (pw_or (pt_not (pt_val (pe_call G__law_int (hr.mono (by omega)) (by rfl) m__law_int k__law_int b__law_int .nil pass0 (pa_cons (pe_ix ix_tup (pv 2) pe_int (fun _ _ => rfl)) pa_nil)))) (pw_or (pt_not (pt_val (pe_call G__law_int (hr.mono (by omega)) (by rfl) m__law_int k__law_int b__law_int .nil pass0 (pa_cons (pe_ix ix_tup (pv 2) pe_int (fun _ _ => rfl)) pa_nil)))) (pw_or1 (pt_not (pt_val (pe_call G__law_is_number (hr.mono (by omega)) (by rfl) m__law_is_number k__law_is_number b__law_is_number .nil pass0 (pa_cons (pv 1) (pa_cons (pv 2) pa_nil))))))))) (pss_one (ps_ret pe_bl)) pss_nil)))) (pss_one (ps_ret pe_bl)))), ?_⟩
    refine ⟨_, rfl, _, _, _, _, true, rfl, .ty _, tyT hx, kit_ty (by decide +kernel), true, rfl, iteF ?_⟩
    refine ⟨_, rfl, pa, rfl, ⟨_, hx⟩, for_tup (K := K) (a := pa) (xs := xs) (fun i σ H' => H' = H ∧ ∃ z2 : Option V, σ = [some (.ref pa), some (.int a), z2]) ⟨rfl, none, rfl⟩ (fun i σ H' _ h => by rw [h.1]; exact hx) ?_ ?_⟩
    · rintro i x σ H' hi ⟨rfl, z2, rfl⟩
      have hil := (List.getElem?_eq_some_iff.mp hi).1
      have lx := hn.len
      rw [List.length_map] at lx
      obtain ⟨y, hy, ny⟩ := hn.pick (i := i) (by omega)
      cases hi.symm.trans hy
      obtain ⟨py, rfl, hpy⟩ := id ny
      have hN : isNB a (F.enc (vec ls i)) = true := isNB_iff.mpr (F.num _)
      refine ⟨_, rfl, _, _, _, _, true, rfl, .ty _, tyT hpy, kit_ty (by decide +kernel), true, rfl, iteF ?_⟩
      refine ⟨_, rfl, py, _, rfl, .inr hpy, rfl, _, rfl, iteF ?_⟩
      refine ⟨_, rfl, py, _, _, _, rfl, rfl, hpy, at0 _ _, _, rfl, true, rfl, iteF ?_⟩
      refine ⟨_, rfl, py, _, _, _, rfl, rfl, hpy, at1 _ _, _, rfl, true, rfl, iteF ?_⟩
      refine ⟨_, rfl, _, rfl, a, _, _, rfl, hf.nn, ny, ?_⟩
      rw [hN]
      exact ⟨_, rfl, iteF ⟨rfl, _, rfl⟩⟩
    · rintro σ H' ⟨rfl, z2, rfl⟩
      exact q

/-! ## refusals -/
/-- what the top says of a refusal's class; CW: the two classes that the handlers name, WebError and Missing -/
structure ErrM (K : PySem.W.Frag) (mg : Str → Option Value) (CW : Addr × Addr) (x : Str) (C fI : Addr) (w : Str) : Prop where
  oex : OexM K C
  exc : ExcC K C
  nm : ∃ nm, CName K C nm ∧ nm.length ≤ 5592405 ∧ Txt.lower nm = w
  xf : XfC K C
  noW : PySem.W.findIn K (.ref C) "word" = some none
  mgC : mg x = some (.ref C)
  iC : PySem.W.findIn K (.ref C) "__init__" = some (some (.ref fI))
  te : PySem.W.exmOne K (.ref C) (.ref CW.1) = some false
  tm : PySem.W.exmOne K (.ref C) (.ref CW.2) = some true
/-- what a handler must know of a caught class -/
structure ErrIs (K : PySem.W.Frag) (CW : Addr × Addr) (C : Addr) : Prop where
  xf : XfC K C
  noW : PySem.W.findIn K (.ref C) "word" = some none
  te : PySem.W.exmOne K (.ref C) (.ref CW.1) = some true ∨ (PySem.W.exmOne K (.ref C) (.ref CW.1) = some false ∧ PySem.W.exmOne K (.ref C) (.ref CW.2) = some true)
theorem ErrM.is {K : PySem.W.Frag} {mg : Str → Option Value} {CW : Addr × Addr} {C fI : Addr} {x w : Str} (E : ErrM K mg CW x C fI w) : ErrIs K CW C := ⟨E.xf, E.noW, .inr ⟨E.te, E.tm⟩⟩
/-- such a refusal leaves -/
def Raised (K : PySem.W.Frag) (CW : Addr × Addr) (w : Str) (H : Hp) (E : XK) : Prop := ∀ (C d : Addr) (H' : Hp), ErrIs K CW C → Same H H' → H' d = some (.xd [("word", .str w)]) → E (.ref C) (some d) H'
theorem Raised.same {K : PySem.W.Frag} {CW : Addr × Addr} {w : Str} {H H1 : Hp} {E : XK} (h : Raised K CW w H E) (s : Same H H1) : Raised K CW w H1 E := fun C d H' e s' q => h C d H' e (s.trans s') q
/-- the same of a class over WebError -/
structure ErrC (K : PySem.W.Frag) (mg : Str → Option Value) (CW : Addr × Addr) (x : Str) (C fI : Addr) (w : Str) : Prop where
  oex : OexC K C
  exc : ExcC K C
  nm : ∃ nm, CName K C nm ∧ nm.length ≤ 5592405 ∧ Txt.lower nm = w
  xf : XfC K C
  noW : PySem.W.findIn K (.ref C) "word" = some none
  mgC : mg x = some (.ref C)
  iC : PySem.W.findIn K (.ref C) "__init__" = some (some (.ref fI))
  te : PySem.W.exmOne K (.ref C) (.ref CW.1) = some true
theorem ErrC.is {K : PySem.W.Frag} {mg : Str → Option Value} {CW : Addr × Addr} {C fI : Addr} {x w : Str} (E : ErrC K mg CW x C fI w) : ErrIs K CW C := ⟨E.xf, E.noW, .inl E.te⟩
def spIni (K : PySem.W.Frag) : Sp := fun vs H Q _ => ∃ (a C : Addr) (x : V) (nm : Str), vs = [.ref a, x] ∧ H a = some (exo a C none) ∧ OexC K C ∧ ExcC K C ∧ CName K C nm ∧ nm.length ≤ 5592405 ∧ PySem.W.findIn K (.ref C) "word" = some none ∧
  ∀ dx, H dx = none → dx ≠ a → Q .non (upd (upd H dx (exd dx [("word", .str (Txt.lower nm))])) a (exo a C (some dx)))
/-- WebError.__init__, called with a text -/
structure IniAt (P : Program) (w : World) (K : PySem.W.Frag) (mg : Str → Option Value) (base : Heap) (fI : Addr) (fd : FuncData) : Prop where
  ok : FnOk P w K mg base CX0 1 fI fd ["self", "text"] (spIni K)
  bd : Binds K fd ["self", "text"] []
  ty : PySem.W.typeIn K (.ref fI) = some (.type "function")
abbrev s_init : Stmt := inClass (topS 2) 0
theorem sc_init : FnScope ["self", "text"] ["self", "text"] (defScope s_init) := ⟨rfl, rfl, rfl, by decide +kernel, rfl, by decide +kernel, by decide +kernel⟩
theorem d_init {P : Program} {w : World} {K : PySem.W.Frag} {mg : Str → Option Value} {base : Heap} {fI : Addr} {fd : FuncData} (F : FunD K "__init__" "WebError.__init__" (defArgs s_init) (defBody s_init) (defScope s_init) [.str ""] [] fI fd) (mV : mg "ValueError" = none)
    (vV : PySem.W.findCls K (.type "ValueError") (.type "type") "__init__" = some (.val (.builtin "ValueError.__init__"))) (ty : PySem.W.typeIn K (.ref fI) = some (.type "function")) : IniAt P w K mg base fI fd := by
  refine ⟨F.ok (CX := CX0) sc_init (fun vs H Q E h => ?_) (fun cdv A outer s H vs Q E hr h => ?_), ?_, ty⟩
  · obtain ⟨a, C, x, nm, rfl, _⟩ := h
    rfl
  · obtain ⟨a, C, x, nm, rfl, hH, oex, exc, cn, hl, noW, q⟩ := h
    refine ⟨_, pss_cons (ps_expr (pe_veinit (by rfl) mV vV (pa_cons (pv 0) (pa_cons (pv 1) pa_nil)))) (pss_one (ps_ost (pv 0) (pe_lower (pe_nameOf (pe_classOf (pv 0)))))), ?_⟩
    refine ⟨_, rfl, _, rfl, a, C, [x], rfl, by show 1 ≤ 1000; decide, oex, hH, ?_⟩
    exact ⟨_, rfl, a, C, rfl, hH, exc, C, nm, rfl, cn, ⟨_, rfl⟩, nm, rfl, rfl, hl, _, rfl, a, C, rfl, oex, noW, .inl ⟨hH, fun dx n ne => q dx n ne⟩⟩
  · obtain ⟨ds, hd, hb⟩ := F.binds1 (ps := ["self", "text"]) 2 1 (by simp) rfl fun T kV doc pm an cdv ct us its hu hi => match us, hu, its, hi with | [_, _], _, [_], _ => ⟨_, rfl, by first | rfl | with_unfolding_all rfl | kernel_rfl⟩
    cases hd
    exact hb
/-- what the raise's reading asks -/
theorem raise_read {K : PySem.W.Frag} {mg : Str → Option Value} {CW : Addr × Addr} {C fI : Addr} {x w : Str} (Ec : ErrC K mg CW x C fI w) {H : Hp} {E : XK} {y : V} (h : Raised K CW w H E) :
    ∀ a, H a = none → spIni K (.ref a :: ([y] ++ [])) (upd H a (exo a C none)) (fun v H2 => v = .non ∧ ∃ (d : Addr) (fs : List (Str × V)), H2 a = some (exo a C (some d)) ∧ H2 d = some (exd d fs) ∧ H d = none ∧ E (.ref C) (some d) (upd (del H2 a) d (.xd fs))) (fun _ _ _ => False) := by
  intro a ha
  obtain ⟨nm, cn, hl, ew⟩ := Ec.nm
  refine ⟨a, C, y, nm, rfl, upd_same, Ec.oex, Ec.exc, cn, hl, Ec.noW, fun dx hdx ne => ⟨rfl, dx, [("word", .str w)], ?_, ?_, ?_, ?_⟩⟩
  · rw [upd_same]
  · rw [upd_ne ne, upd_same, ew]
  · rw [upd_ne ne] at hdx
    exact hdx
  · rw [upd_ne ne] at hdx
    refine h C dx _ Ec.is (fun b o e => ?_) upd_same
    have n1 : b ≠ a := ne_of_none e ha
    have n2 : b ≠ dx := ne_of_none e hdx
    rw [upd_ne n2, del_ne n1, upd_ne n1, upd_ne n2, upd_ne n1]
    exact e
def spIniM (K : PySem.W.Frag) : Sp := fun vs H Q _ => ∃ (a C : Addr) (x : V) (nm : Str), vs = [.ref a, x] ∧ H a = some (exo a C none) ∧ OexM K C ∧ ExcC K C ∧ CName K C nm ∧ nm.length ≤ 5592405 ∧ PySem.W.findIn K (.ref C) "word" = some none ∧
  ∀ dx, H dx = none → dx ≠ a → Q .non (upd (upd H dx (exd dx [("word", .str (Txt.lower nm))])) a (exo a C (some dx)))
/-- Missing.__init__, called with a text -/
structure IniAtM (P : Program) (w : World) (K : PySem.W.Frag) (mg : Str → Option Value) (base : Heap) (fI : Addr) (fd : FuncData) : Prop where
  ok : FnOk P w K mg base CX0 1 fI fd ["self", "text"] (spIniM K)
  bd : Binds K fd ["self", "text"] []
  ty : PySem.W.typeIn K (.ref fI) = some (.type "function")
abbrev s_initM : Stmt := inClass (topS 6) 0
theorem sc_initM : FnScope ["self", "text"] ["self", "text"] (defScope s_initM) := ⟨rfl, rfl, rfl, by decide +kernel, rfl, by decide +kernel, by decide +kernel⟩
theorem d_initM {P : Program} {w : World} {K : PySem.W.Frag} {mg : Str → Option Value} {base : Heap} {fI : Addr} {fd : FuncData} (F : FunD K "__init__" "Missing.__init__" (defArgs s_initM) (defBody s_initM) (defScope s_initM) [.str ""] [] fI fd) (mV : mg "LookupError" = none)
    (vV : PySem.W.findCls K (.type "LookupError") (.type "type") "__init__" = some (.val (.builtin "LookupError.__init__"))) (ty : PySem.W.typeIn K (.ref fI) = some (.type "function")) : IniAtM P w K mg base fI fd := by
  refine ⟨F.ok (CX := CX0) sc_initM (fun vs H Q E h => ?_) (fun cdv A outer s H vs Q E hr h => ?_), ?_, ty⟩
  · obtain ⟨a, C, x, nm, rfl, _⟩ := h
    rfl
  · obtain ⟨a, C, x, nm, rfl, hH, oex, exc, cn, hl, noW, q⟩ := h
    refine ⟨_, pss_cons (ps_expr (pe_leinit (by rfl) mV vV (pa_cons (pv 0) (pa_cons (pv 1) pa_nil)))) (pss_one (ps_first (pv 0) (pe_lower (pe_nameOf (pe_classOf (pv 0)))))), ?_⟩
    refine ⟨_, rfl, _, rfl, a, C, [x], rfl, by show 1 ≤ 1000; decide, oex, hH, ?_⟩
    exact ⟨_, rfl, a, C, rfl, hH, exc, C, nm, rfl, cn, ⟨_, rfl⟩, nm, rfl, rfl, hl, _, rfl, a, C, rfl, oex, noW, hH, fun dx n ne => q dx n ne⟩
  · obtain ⟨ds, hd, hb⟩ := F.binds1 (ps := ["self", "text"]) 2 1 (by simp) rfl fun T kV doc pm an cdv ct us its hu hi => match us, hu, its, hi with | [_, _], _, [_], _ => ⟨_, rfl, by first | rfl | with_unfolding_all rfl | kernel_rfl⟩
    cases hd
    exact hb
/-- what the raise's reading asks -/
theorem raise_readM {K : PySem.W.Frag} {mg : Str → Option Value} {CW : Addr × Addr} {C fI : Addr} {x w : Str} (Ec : ErrM K mg CW x C fI w) {H : Hp} {E : XK} {y : V} (h : Raised K CW w H E) :
    ∀ a, H a = none → spIniM K (.ref a :: ([y] ++ [])) (upd H a (exo a C none)) (fun v H2 => v = .non ∧ ∃ (d : Addr) (fs : List (Str × V)), H2 a = some (exo a C (some d)) ∧ H2 d = some (exd d fs) ∧ H d = none ∧ E (.ref C) (some d) (upd (del H2 a) d (.xd fs))) (fun _ _ _ => False) := by
  intro a ha
  obtain ⟨nm, cn, hl, ew⟩ := Ec.nm
  refine ⟨a, C, y, nm, rfl, upd_same, Ec.oex, Ec.exc, cn, hl, Ec.noW, fun dx hdx ne => ⟨rfl, dx, [("word", .str w)], ?_, ?_, ?_, ?_⟩⟩
  · rw [upd_same]
  · rw [upd_ne ne, upd_same, ew]
  · rw [upd_ne ne] at hdx
    exact hdx
  · rw [upd_ne ne] at hdx
    refine h C dx _ Ec.is (fun b o e => ?_) upd_same
    have n1 : b ≠ a := ne_of_none e ha
    have n2 : b ≠ dx := ne_of_none e hdx
    rw [upd_ne n2, del_ne n1, upd_ne n1, upd_ne n2, upd_ne n1]
    exact e
/-- a def that may raise -/
def DefX (P : Program) (w : World) (K : PySem.W.Frag) (mg : Str → Option Value) (base : Heap) (x : Str) (k : Nat) (ps : List Str) (sp : Sp) : Prop :=
  ∃ (f : Addr) (fd : FuncData), FnOk P w K mg base (L2.CX P w) k f fd ps sp ∧ mg x = some (.ref f) ∧ PySem.W.keepIn K (.ref f) = true ∧ Binds K fd ps []

open Lin
def spChkFX (K : PySem.W.Frag) (CW : Addr × Addr) : Sp := fun vs H Q E => ∃ f : Int, vs = [.int f] ∧ (IsF f → Q .non H) ∧ (¬ IsF f → Raised K CW "badfield" H E)
theorem len_check_field {K CW vs H Q E} (h : spChkFX K CW vs H Q E) : vs.length = (["field"] : List Str).length := by
  obtain ⟨f, rfl, _⟩ := h
  rfl
theorem d_check_field {P : Program} {w : World} {K : PySem.W.Frag} {mg : Str → Option Value} {base : Heap} {CW : Addr × Addr} {fI fJ : Addr} (R : Raw K mg "check_field" s_check_field) (D_is_field : Def P w K mg base "is_field" 1 ["field"] (spIsF)) {C_BadField : Addr} (E_BadField : ErrC K mg CW "BadField" C_BadField fI "badfield") {fdI : FuncData} (G_init : IniAt P w K mg base fI fdI) : DefX P w K mg base "check_field" 3 ["field"] (spChkFX K CW) := by
  obtain ⟨f, fd, F, m⟩ := R
  obtain ⟨f_is_field, fd_is_field, G_is_field, m_is_field, k_is_field, b_is_field⟩ := D_is_field
  refine ⟨f, fd, F.okX sc_check_field (fun vs H Q E h => ?_) (fun cdv A outer s H vs Q E hr h => ?_), m, F.kp, F.binds (ps := ["field"]) fun _ _ _ _ _ _ us hl => match us, hl with | [_], _ => rfl⟩
  · exact len_check_field h

  · obtain ⟨a, rfl, q, qx⟩ := h
    refine ⟨_, (pss_one (ps_if (pt_not (pt_val (pe_call G_is_field (hr.mono (by omega)) (by rfl) m_is_field k_is_field b_is_field .nil pass0 (pa_cons (pv 0) pa_nil)))) (pss_one (ps_raise rfl (takes_of rfl rfl rfl rfl) (pmk_oex E_BadField.oex E_BadField.iC G_init.ty G_init.ok (hr.mono (by omega)) G_init.bd .nil pass0 (by rfl) E_BadField.mgC (pa_cons pe_str pa_nil)))) pss_nil)), ?_⟩
    refine ⟨_, rfl, a, rfl, _, rfl, ?_⟩
    by_cases hf : IsF a
    · rw [isFB_iff.mpr hf]
      exact iteF (q hf)
    · have e : isFB a = false := eq_false_of_ne_true fun z => hf (isFB_iff.mp z)
      rw [e]
      refine iteT ⟨by show 1 ≤ 1000; decide, raise_read E_BadField (qx hf)⟩

open Lin
/-! ## numbers looked at, with refusals -/
def goodAll (f : Int) (qs : List Pr) : Bool := qs.all fun q => isNB f q
def spChkNX (K : PySem.W.Frag) (CW : Addr × Addr) : Sp := fun vs H Q E => ∃ (f : Int) (t : Bool) (p : Addr) (xs : List V) (qs : List Pr), vs = [.int f, .ref p] ∧ ZM.Sq t K H p xs ∧ NumsV K H xs qs ∧ xs.length ≤ 1000 ∧ (goodAll f qs = true → ∀ H', Same H H' → Q .non H') ∧ (goodAll f qs = false → Raised K CW "badnumber" H E)
theorem len_check_numbers {K CW vs H Q E} (h : spChkNX K CW vs H Q E) : vs.length = (["field", "numbers"] : List Str).length := by
  obtain ⟨f, t, p, xs, qs, rfl, _⟩ := h
  rfl
theorem d_check_numbers {P : Program} {w : World} {K : PySem.W.Frag} {mg : Str → Option Value} {base : Heap} {CW : Addr × Addr} {fI fJ : Addr} (R : Raw K mg "check_numbers" s_check_numbers) (B : Bn mg) (D_fits : Def P w K mg base "fits" 1 ["field", "number"] (spFits K)) {C_BadNumber : Addr} (E_BadNumber : ErrC K mg CW "BadNumber" C_BadNumber fI "badnumber") {fdI : FuncData} (G_init : IniAt P w K mg base fI fdI) : DefX P w K mg base "check_numbers" 3 ["field", "numbers"] (spChkNX K CW) := by
  obtain ⟨f, fd, F, m⟩ := R
  obtain ⟨f_fits, fd_fits, G_fits, m_fits, k_fits, b_fits⟩ := D_fits
  refine ⟨f, fd, F.okX sc_check_numbers (fun vs H Q E h => ?_) (fun cdv A outer s H vs Q E hr h => ?_), m, F.kp, F.binds (ps := ["field", "numbers"]) fun _ _ _ _ _ _ us hl => match us, hl with | [_, _], _ => rfl⟩
  · exact len_check_numbers h

  · obtain ⟨a, t, p, xs, qs, rfl, hx, hv, hl, q, qx⟩ := h
    refine ⟨_, (pss_one (ps_if (pt_not (pt_val (pe_callB (cr_all rfl) (by rfl) B.all (by decide +kernel) (pa_cons (pe_lc (own := [("number", 2)]) (g := gName 2) (tt := tYes) rfl sc_check_numbers.nd (ZM.pi_sq (pv 1)) (blkOk_by (N := ["field", "numbers", "number"]) (sc := defScope s_check_numbers) (by decide +kernel)) (fun _ _ _ _ _ => pg_name (i := 2) sc_check_numbers.nd rfl (Or.inl rfl)) (fun _ _ _ _ _ => pts_nil) (fun _ _ _ _ _ => (pe_call G_fits (hr.mono (by omega)) (by rfl) m_fits k_fits b_fits .nil pass0 (pa_cons (pv 0) (pa_cons (pv 2) pa_nil))))) pa_nil)))) (pss_one (ps_raise rfl (takes_of rfl rfl rfl rfl) (pmk_oex E_BadNumber.oex E_BadNumber.iC G_init.ty G_init.ok (hr.mono (by omega)) G_init.bd .nil pass0 (by rfl) E_BadNumber.mgC (pa_cons pe_str pa_nil)))) pss_nil)), ?_⟩
    have lq : xs.length = qs.length := Paired.length hv
    refine ⟨_, rfl, t, p, xs, rfl, hx, fun D hD => lc_it (ZM.walkS (xs := xs)) (fun i H' => Same H H' ∧ H' D = some (.lst ((qs.take i).map fun q => V.bl (isNB a q)))) ⟨same_new hD, upd_same⟩ (fun i H' _ ⟨s, _⟩ => Sq.same s hx) ?_ ?_⟩
    · rintro i x H2 H3 hi ⟨s, hD'⟩ ⟨rfl, e1⟩
      obtain ⟨r, hr1, hr2⟩ := hv.get e1
      have hil := (List.getElem?_eq_some_iff.mp e1).1
      refine ⟨rfl, tYes_of (iteT ?_)⟩
      refine ⟨_, rfl, _, rfl, a, x, r, rfl, hr2.same s, ?_⟩
      refine ⟨_, hD', by rw [List.length_map, List.length_take]; exact small1000 (by omega), same_seqT_upd s hD hD', ?_⟩
      rw [upd_same, List.take_add_one, hr1, List.map_append]
      rfl
    · rintro H' ⟨s, hD'⟩
      rw [lq, List.take_length] at hD'
      refine ⟨D, qs.map fun q => isNB a q, rfl, ?_, ?_⟩
      · rw [List.map_map]
        exact SqL.of hD'
      · have e : (qs.map fun q => isNB a q).all id = goodAll a qs := by
          unfold goodAll
          rw [List.all_map]
          rfl
        rw [e]
        cases hg : goodAll a qs with
        | true => exact ⟨_, rfl, iteF (q hg H' s)⟩
        | false => exact ⟨_, rfl, iteT ⟨by show 1 ≤ 1000; decide, raise_read E_BadNumber ((qx hg).same s)⟩⟩
/-- a row of pairs, whatever they are -/
def RowP (K : PySem.W.Frag) (H : Hp) (v : V) (qs : List Pr) : Prop := ∃ (a : Addr) (ys : List V), v = .ref a ∧ SqT K H a ys ∧ NumsV K H ys qs
theorem RowP.same {K : PySem.W.Frag} {H H' : Hp} {v : V} {qs : List Pr} (h : RowP K H v qs) (s : Same H H') : RowP K H' v qs := by
  obtain ⟨a, ys, h1, h2, h3⟩ := h
  exact ⟨a, ys, h1, Same.seqT s h2, NumsV.same s h3⟩
def RowsP (K : PySem.W.Frag) (H : Hp) (xs : List V) (QS : List (List Pr)) : Prop := Paired (fun v qs => RowP K H v qs) xs QS
theorem RowsP.same {K : PySem.W.Frag} {H H' : Hp} (s : Same H H') : ∀ {xs : List V} {QS : List (List Pr)}, RowsP K H xs QS → RowsP K H' xs QS
  | _, _, .nil => .nil
  | _, _, .cons h t => .cons (h.same s) (RowsP.same s t)
theorem RowsP.pick {K : PySem.W.Frag} {H : Hp} : ∀ {xs : List V} {QS : List (List Pr)} {i : Nat} {x : V}, RowsP K H xs QS → xs[i]? = some x → ∃ qs, QS[i]? = some qs ∧ RowP K H x qs
  | _, _, i, x, .nil, e => by simp at e
  | _, _, 0, x, .cons h t, e => by
    have e := Option.some.inj ((List.getElem?_cons_zero ..).symm.trans e)
    subst e
    exact ⟨_, rfl, h⟩
  | _, _, i + 1, x, .cons h t, e => by
    obtain ⟨u, h1, h2⟩ := RowsP.pick (i := i) (x := x) t (by simpa using e)
    exact ⟨u, by simpa using h1, h2⟩
theorem RTs.pairs {K : PySem.W.Frag} {H : Hp} {f : Int} {F : Fd f} : ∀ {xs : List V} {T : List (List F.F)}, RTs K H F xs T → RowsP K H xs (T.map fun l => l.map F.enc)
  | _, _, .nil => .nil
  | _, _, .cons h t => .cons h (RTs.pairs t)
theorem good_enc {f : Int} {F : Fd f} {l : List F.F} : goodAll f (l.map F.enc) = true := by
  unfold goodAll
  rw [List.all_eq_true]
  intro q hq
  obtain ⟨x, _, rfl⟩ := List.mem_map.mp hq
  exact isNB_iff.mpr (F.num x)
theorem goods_enc {f : Int} {F : Fd f} {T : List (List F.F)} : (T.map fun l => l.map F.enc).all (goodAll f) = true := by
  rw [List.all_eq_true]
  intro q hq
  obtain ⟨x, _, rfl⟩ := List.mem_map.mp hq
  exact good_enc
def spChkRsX (K : PySem.W.Frag) (CW : Addr × Addr) : Sp := fun vs H Q E => ∃ (f : Int) (p : Addr) (xs : List V) (QS : List (List Pr)), vs = [.int f, .ref p] ∧ SqT K H p xs ∧ RowsP K H xs QS ∧ (∀ qs ∈ QS, qs.length ≤ 1000) ∧ (QS.all (goodAll f) = true → ∀ H', Same H H' → Q .non H') ∧ (QS.all (goodAll f) = false → Raised K CW "badnumber" H E)
theorem len_check_row_numbers {K CW vs H Q E} (h : spChkRsX K CW vs H Q E) : vs.length = (["field", "rows"] : List Str).length := by
  obtain ⟨f, p, xs, QS, rfl, _⟩ := h
  rfl
theorem d_check_row_numbers {P : Program} {w : World} {K : PySem.W.Frag} {mg : Str → Option Value} {base : Heap} {CW : Addr × Addr} {fI fJ : Addr} (R : Raw K mg "check_row_numbers" s_check_row_numbers) (B : Bn mg) (D_check_numbers : DefX P w K mg base "check_numbers" 3 ["field", "numbers"] (spChkNX K CW)) : DefX P w K mg base "check_row_numbers" 4 ["field", "rows"] (spChkRsX K CW) := by
  obtain ⟨f, fd, F, m⟩ := R
  obtain ⟨f_check_numbers, fd_check_numbers, G_check_numbers, m_check_numbers, k_check_numbers, b_check_numbers⟩ := D_check_numbers
  refine ⟨f, fd, F.okX sc_check_row_numbers (fun vs H Q E h => ?_) (fun cdv A outer s H vs Q E hr h => ?_), m, F.kp, F.binds (ps := ["field", "rows"]) fun _ _ _ _ _ _ us hl => match us, hl with | [_, _], _ => rfl⟩
  · exact len_check_row_numbers h

  · obtain ⟨a, p, xs, QS, rfl, hx, hR, hl, q, qx⟩ := h
    refine ⟨_, (pss_one (ps_for (passes_of rfl) rfl (pi_tup (pv 1)) (pg_name (i := 2) sc_check_row_numbers.nd rfl (Or.inl rfl)) (pss_one (ps_expr (pe_call G_check_numbers (hr.mono (by omega)) (by rfl) m_check_numbers k_check_numbers b_check_numbers .nil (passes_call (takes_of rfl rfl rfl rfl) (fun _ _ _ _ h => h)) (pa_cons (pv 0) (pa_cons (pv 2) pa_nil))))))), ?_⟩
    have lq : xs.length = QS.length := Paired.length hR
    refine ⟨_, rfl, p, rfl, ⟨_, hx⟩, for_tup (K := K) (a := p) (xs := xs) (fun i σ H' => Same H H' ∧ (QS.take i).all (goodAll a) = true ∧ ∃ z : Option V, σ = [some (.int a), some (.ref p), z]) ⟨Same.refl H, rfl, none, rfl⟩ (fun i σ H' _ h => Same.seqT h.1 hx) ?_ ?_⟩
    · rintro i x σ H2 hi ⟨s, g, z, rfl⟩
      obtain ⟨qs, e1, h1⟩ := hR.pick hi
      obtain ⟨r, ys, rfl, hy, hn⟩ := h1.same s
      have ly : ys.length = qs.length := Paired.length hn
      have l1 := hl qs (List.mem_of_getElem? e1)
      refine ⟨_, rfl, _, rfl, a, true, r, ys, qs, rfl, hy, hn, by omega, fun hg H3 s3 => ⟨s.trans s3, ?_, _, rfl⟩, fun hg => ?_⟩
      · rw [List.take_add_one, e1, List.all_append, g]
        show goodAll a qs && true = true
        rw [hg]
        rfl
      · refine (qx ?_).same s
        cases hc : QS.all (goodAll a) with
        | false => rfl
        | true =>
          rw [List.all_eq_true.mp hc qs (List.mem_of_getElem? e1)] at hg
          cases hg
    · rintro σ H2 ⟨s, g, z, rfl⟩
      rw [lq, List.take_length] at g
      exact q g _ s

open Lin
/-! ## numbers of any kind over one bottom -/
section
variable {f : Int} {D : Fd f} {ι κ : Type}
def HtJ {f : Int} (D : Fd f) {ι : Type} (n : Nat) (v : ι → D.F) : Prop := letI := D.fld; ∃ (d : Int) (z : ι → Int), D.ofI d ≠ 0 ∧ d.natAbs < 2 ^ n ∧ ∀ j, (z j).natAbs < 2 ^ n ∧ v j = D.ofI (z j) * (D.ofI d)⁻¹
theorem HtJ.ht {n : Nat} {v : Nat → D.F} (h : HtJ D n v) : Ht D n v := h
theorem Ht.j {n : Nat} {v : Nat → D.F} (h : Ht D n v) : HtJ D n v := h
theorem HtJ.mono {n m : Nat} {v : ι → D.F} (h : HtJ D n v) (k : n ≤ m) : HtJ D m v := by
  obtain ⟨d, z, h0, h1, h2⟩ := h
  have e : 2 ^ n ≤ 2 ^ m := Nat.pow_le_pow_right (by decide) k
  exact ⟨d, z, h0, Nat.lt_of_lt_of_le h1 e, fun j => ⟨Nat.lt_of_lt_of_le (h2 j).1 e, (h2 j).2⟩⟩
/-- some of them, and noughts -/
theorem HtJ.re {n : Nat} {u : ι → D.F} {v : κ → D.F} (h : HtJ D n u) (e : letI := D.fld; ∀ j, v j = 0 ∨ ∃ i, v j = u i) : HtJ D n v := by
  letI := D.fld
  obtain ⟨d, z, h0, h1, h2⟩ := h
  have ex : ∀ j, ∃ y : Int, y.natAbs < 2 ^ n ∧ v j = D.ofI y * (D.ofI d)⁻¹ := fun j => by
    rcases e j with e | ⟨i, e⟩
    · refine ⟨0, Nat.two_pow_pos _, ?_⟩
      rw [e, ofI_zero]
      grind
    · exact ⟨z i, (h2 i).1, by rw [e]; exact (h2 i).2⟩
  exact ⟨d, fun j => (ex j).choose, h0, h1, fun j => (ex j).choose_spec⟩
theorem HtJ.both {n m : Nat} {u : ι → D.F} {v : κ → D.F} (hu : HtJ D n u) (hv : HtJ D m v) : HtJ D (n + m) (Sum.elim u v) := by
  letI := D.fld
  obtain ⟨d, z, d0, d1, d2⟩ := hu
  obtain ⟨e, y, e0, e1, e2⟩ := hv
  refine ⟨d * e, fun j => match j with | .inl i => z i * e | .inr i => y i * d, ?_, ?_, fun j => ?_⟩
  · rw [D.ofI_mul]
    generalize D.ofI d = A at *
    generalize D.ofI e = B at *
    grind
  · rw [Int.natAbs_mul]
    exact two_pow d1 e1
  · cases j with
    | inl i =>
      refine ⟨?_, ?_⟩
      · show (z i * e).natAbs < _
        rw [Int.natAbs_mul]
        exact two_pow (d2 i).1 e1
      · show u i = D.ofI (z i * e) * (D.ofI (d * e))⁻¹
        rw [D.ofI_mul, D.ofI_mul, (d2 i).2]
        generalize D.ofI d = A at *
        generalize D.ofI e = B at *
        generalize D.ofI (z i) = X
        grind
    | inr i =>
      refine ⟨?_, ?_⟩
      · show (y i * d).natAbs < _
        rw [Int.natAbs_mul, Nat.mul_comm]
        exact two_pow d1 (e2 i).1
      · show v i = D.ofI (y i * d) * (D.ofI (d * e))⁻¹
        rw [D.ofI_mul, D.ofI_mul, (e2 i).2]
        generalize D.ofI d = A at *
        generalize D.ofI e = B at *
        generalize D.ofI (y i) = X
        grind
theorem HtJ.prod {n m : Nat} {u : ι → D.F} {v : κ → D.F} (hu : HtJ D n u) (hv : HtJ D m v) : letI := D.fld; HtJ D (n + m) (fun p : ι × κ => u p.1 * v p.2) := by
  letI := D.fld
  obtain ⟨d, z, d0, d1, d2⟩ := hu
  obtain ⟨e, y, e0, e1, e2⟩ := hv
  refine ⟨d * e, fun p => z p.1 * y p.2, ?_, ?_, fun p => ⟨?_, ?_⟩⟩
  · rw [D.ofI_mul]
    generalize D.ofI d = A at *
    generalize D.ofI e = B at *
    grind
  · rw [Int.natAbs_mul]
    exact two_pow d1 e1
  · show (z p.1 * y p.2).natAbs < _
    rw [Int.natAbs_mul]
    exact two_pow (d2 p.1).1 (e2 p.2).1
  · show u p.1 * v p.2 = D.ofI (z p.1 * y p.2) * (D.ofI (d * e))⁻¹
    rw [D.ofI_mul, D.ofI_mul, (d2 p.1).2, (e2 p.2).2]
    generalize D.ofI d = A at *
    generalize D.ofI e = B at *
    generalize D.ofI (z p.1) = X
    generalize D.ofI (y p.2) = Y
    grind
/-- 1 besides -/
theorem HtJ.one {n : Nat} {u : ι → D.F} (hu : HtJ D n u) : letI := D.fld; HtJ D n (fun o : Option ι => match o with | none => 1 | some i => u i) := by
  letI := D.fld
  obtain ⟨d, z, d0, d1, d2⟩ := hu
  refine ⟨d, fun o => match o with | none => d | some i => z i, d0, d1, fun o => ?_⟩
  cases o with
  | none =>
    refine ⟨d1, ?_⟩
    show (1 : D.F) = D.ofI d * (D.ofI d)⁻¹
    generalize D.ofI d = A at *
    grind
  | some i => exact d2 i
theorem HtJ.num (hf : IsF f) {k : Nat} {x : D.F} (h : Sz D k x) : HtJ D k (fun _ : Unit => x) := by
  obtain ⟨b0, e⟩ := num_div (D := D) hf x
  exact ⟨(D.enc x).2, fun _ => (D.enc x).1, b0, h.2, fun _ => ⟨h.1, e⟩⟩
def isum (z : Nat → Int) : Nat → Int
  | 0 => 0
  | k + 1 => isum z k + z k
theorem isum_le {z : Nat → Int} {n : Nat} (h : ∀ j, (z j).natAbs < 2 ^ n) : ∀ k, (isum z k).natAbs + k ≤ k * 2 ^ n
  | 0 => by
    show (0 : Int).natAbs + 0 ≤ 0 * _
    simp
  | k + 1 => by
    have ih := isum_le h k
    have h1 := h k
    have h2 := Int.natAbs_add_le (isum z k) (z k)
    rw [Nat.succ_mul]
    show (isum z k + z k).natAbs + (k + 1) ≤ _
    omega
theorem isum_ofI {z : Nat → Int} : ∀ k, letI := D.fld; D.ofI (isum z k) = sumV (fun j => D.ofI (z j)) k
  | 0 => ofI_zero
  | k + 1 => by
    letI := D.fld
    show D.ofI (isum z k + z k) = sumV (fun j => D.ofI (z j)) k + D.ofI (z k)
    rw [D.ofI_add, isum_ofI k]
theorem HtJ.sum {n k s : Nat} {u : ι → D.F} (h : HtJ D n u) (hk : k ≤ 2 ^ s) (g : κ → Nat → ι) : letI := D.fld; HtJ D (n + s) (fun j => sumV (fun i => u (g j i)) k) := by
  letI := D.fld
  obtain ⟨d, z, d0, d1, d2⟩ := h
  refine ⟨d, fun j => isum (fun i => z (g j i)) k, d0, Nat.lt_of_lt_of_le d1 (Nat.pow_le_pow_right (by decide) (by omega)), fun j => ⟨?_, ?_⟩⟩
  · have h1 := isum_le (z := fun i => z (g j i)) (n := n) (fun i => (d2 _).1) k
    have h2 : k * 2 ^ n ≤ 2 ^ s * 2 ^ n := Nat.mul_le_mul_right _ hk
    rw [← Nat.pow_add, Nat.add_comm s n] at h2
    show (isum (fun i => z (g j i)) k).natAbs < _
    rcases Nat.eq_zero_or_pos k with h0 | h0
    · subst h0
      exact Nat.two_pow_pos _
    · omega
  · show sumV (fun i => u (g j i)) k = D.ofI (isum (fun i => z (g j i)) k) * (D.ofI d)⁻¹
    rw [isum_ofI]
    clear hk
    induction k with
    | zero =>
      show (0 : D.F) = 0 * _
      grind
    | succ k ih =>
      show sumV (fun i => u (g j i)) k + u (g j k) = (sumV (fun i => D.ofI (z (g j i))) k + D.ofI (z (g j k))) * (D.ofI d)⁻¹
      rw [ih, (d2 (g j k)).2]
      generalize sumV (fun i => D.ofI (z (g j i))) k = A
      generalize D.ofI (z (g j k)) = B
      generalize (D.ofI d)⁻¹ = C
      grind
/-- two added, besides all -/
theorem HtJ.add {n : Nat} {u : ι → D.F} (h : HtJ D n u) : letI := D.fld; HtJ D (n + 1) (fun o : ι ⊕ (ι × ι) => match o with | .inl i => u i | .inr p => u p.1 + u p.2) := by
  letI := D.fld
  obtain ⟨d, z, d0, d1, d2⟩ := h
  have e2 : 2 ^ (n + 1) = 2 ^ n + 2 ^ n := by rw [Nat.pow_succ]; omega
  refine ⟨d, fun o => match o with | .inl i => z i | .inr p => z p.1 + z p.2, d0, by omega, fun o => ?_⟩
  cases o with
  | inl i => exact ⟨Nat.lt_of_lt_of_le (d2 i).1 (by omega), (d2 i).2⟩
  | inr p =>
    refine ⟨?_, ?_⟩
    · have h1 := (d2 p.1).1
      have h2 := (d2 p.2).1
      have h3 := Int.natAbs_add_le (z p.1) (z p.2)
      show (z p.1 + z p.2).natAbs < _
      omega
    · show u p.1 + u p.2 = D.ofI (z p.1 + z p.2) * (D.ofI d)⁻¹
      rw [D.ofI_add, (d2 p.1).2, (d2 p.2).2]
      generalize (D.ofI d)⁻¹ = C
      generalize D.ofI (z p.1) = A
      generalize D.ofI (z p.2) = B
      grind
/-- one more, of its own -/
theorem HtJ.push (hf : IsF f) {n k : Nat} {u v : Nat → D.F} (hu : HtJ D n u) {x : D.F} (hx : Sz D k x) (e : ∀ j, v j = x ∨ ∃ i, v j = u i) : HtJ D (n + k) v := by
  refine (hu.both (HtJ.num hf hx)).re fun j => .inr ?_
  rcases e j with h | ⟨i, h⟩
  · exact ⟨.inr (), h⟩
  · exact ⟨.inl i, h⟩
theorem HtJ.pushAdd {n : Nat} {u v : Nat → D.F} (hu : HtJ D n u) (a b : Nat) (e : letI := D.fld; ∀ j, v j = u a + u b ∨ ∃ i, v j = u i) : HtJ D (n + 1) v := by
  refine hu.add.re fun j => .inr ?_
  rcases e j with h | ⟨i, h⟩
  · exact ⟨.inr (a, b), h⟩
  · exact ⟨.inl i, h⟩
theorem HtJ.pushMul (hf : IsF f) {n k : Nat} {u v : Nat → D.F} (hu : HtJ D n u) (a : Nat) {c : D.F} (hc : Sz D k c) (e : letI := D.fld; ∀ j, v j = u a * c ∨ ∃ i, v j = u i) : HtJ D (n + k) v := by
  letI := D.fld
  refine (hu.prod (HtJ.num hf hc).one).re fun j => .inr ?_
  rcases e j with h | ⟨i, h⟩
  · exact ⟨(a, some ()), h⟩
  · exact ⟨(i, none), by
      rw [h]
      show u i = u i * 1
      grind⟩
/-- many columns, all over one bottom -/
theorem HtJ.cols {n : Nat} {u : Nat → ι → D.F} (h : ∀ p, HtJ D n (u p)) : ∀ w, HtJ D (n * w + 1) (fun q : Fin w × ι => u q.1 q.2)
  | 0 => by
    letI := D.fld
    refine ⟨1, fun _ => 0, ?_, ?_, fun q => q.1.elim0⟩
    · rw [D.ofI_one]
      exact one_ne
    · rw [Nat.mul_zero]
      decide
  | w + 1 => by
    have ih := HtJ.cols h w
    refine ((ih.both (h w)).mono (by rw [Nat.mul_succ]; omega)).re fun q => .inr ?_
    by_cases c : q.1.1 < w
    · exact ⟨.inl (⟨q.1.1, c⟩, q.2), rfl⟩
    · have e : q.1.1 = w := by have := q.1.2; omega
      exact ⟨.inr q.2, by
        show u q.1.1 q.2 = u w q.2
        rw [e]⟩
end

open Lin
/-! ## tables on the heap -/
def TabT (K : PySem.W.Frag) (H : Hp) {f : Int} (F : Fd f) (v : V) (T : List (List F.F)) : Prop := ∃ (a : Addr) (xs : List V), v = .ref a ∧ SqT K H a xs ∧ RTs K H F xs T
theorem TabT.tk {K : PySem.W.Frag} {H H1 : Hp} {f : Int} {F : Fd f} {v : V} {T : List (List F.F)} (h : TabT K H F v T) (t : Tk K H H1) : TabT K H1 F v T := by
  obtain ⟨p, xs, h1, h2, h3⟩ := h
  exact ⟨p, xs, h1, t _ _ h2, h3.tk t⟩
theorem dot_okH {f : Int} (hf : IsF f) {F : Fd f} {l c : List F.F} {h g : Nat} (hl : letI := F.fld; Ht F h (vec l)) (hc : letI := F.fld; Ht F g (vec c)) (h7 : 7 ≤ h) (g7 : 7 ≤ g) (len : l.length ≤ c.length) (l7 : l.length ≤ 7) (hb : h + (g + 3) ≤ 6700) : DotOk F l c := by
  letI := F.fld
  letI := F.dec
  have sl := fun j => hl.sm hf h7 j
  have sc := fun j => hc.sm hf g7 j
  refine ⟨len, by omega, fun j => Sm.mono (sl j) (by omega), fun j => Sm.mono (sc j) (by omega), fun j => (sz_mul hf h7 (sl j) (sc j)).mono (by omega), fun k hk => Sm.mono ((dot_ht hl hc k (by omega)).2.sm hf (by omega) 0) (by omega)⟩
theorem ht_99 {f : Int} (hf : IsF f) {F : Fd f} {l : List F.F} (h : ∀ x ∈ l, S99 (F.enc x)) : letI := F.fld; Ht F (7 * l.length + 1) (vec l) := Ht.ofs hf fun x hx => (h x hx).sm
def rLen (K : PySem.W.Frag) : List V → Hp → VK → Prop := fun xs H Q => ∃ p ys, xs = [.ref p] ∧ (SqL K H p ys ∨ SqT K H p ys) ∧ Q (.int ys.length) H
theorem cr_len {X : Cx} : CallR X (.builtin "len") (rLen X.K) := call_len_seq
def OneAt (K : PySem.W.Frag) (mg : Str → Option Value) : Prop := ∃ a : Addr, mg "ONE" = some (.ref a) ∧ ∀ H : Hp, SqT K H a [.int 1, .int 1]
theorem NumsV.app {K : PySem.W.Frag} {H : Hp} : ∀ {vs ws : List V} {qs rs : List Pr}, NumsV K H vs qs → NumsV K H ws rs → NumsV K H (vs ++ ws) (qs ++ rs)
  | _, _, _, _, .nil, h => h
  | _, _, _, _, .cons g r, h => .cons g (NumsV.app r h)
theorem NumsV.take {K : PySem.W.Frag} {H : Hp} : ∀ {vs : List V} {qs : List Pr} (i : Nat), NumsV K H vs qs → NumsV K H (vs.take i) (qs.take i)
  | _, _, 0, _ => .nil
  | _, _, _ + 1, .nil => .nil
  | _, _, i + 1, .cons g r => .cons g (NumsV.take i r)
theorem NumsV.drop {K : PySem.W.Frag} {H : Hp} : ∀ {vs : List V} {qs : List Pr} (i : Nat), NumsV K H vs qs → NumsV K H (vs.drop i) (qs.drop i)
  | _, _, 0, h => h
  | _, _, _ + 1, .nil => .nil
  | _, _, i + 1, .cons g r => NumsV.drop i r
def rTupOf (K : PySem.W.Frag) : List V → Hp → VK → Prop := fun xs H Q => ∃ p ys, xs = [.ref p] ∧ ((SqL K H p ys ∧ ∀ l : Addr, H l = none → Q (.ref l) (upd H l (.tup ys))) ∨ (SqT K H p ys ∧ Q (.ref p) H))
theorem cr_tupOf {X : Cx} : CallR X (.type "tuple") (rTupOf X.K) := call_tuple_of

open Lin
/-! ## sections by factors -/
def turnT {f : Int} (F : Fd f) (w : Nat) (L : List (List F.F)) : List (List F.F) := letI := F.fld; (List.range w).map fun p => L.map fun l => vec l p
def spTurnedP (K : PySem.W.Frag) : Sp := fun vs H Q _ => ∃ (f : Int) (F : Fd f) (t : Bool) (r : Addr) (xs : List V) (L : List (List F.F)) (w : Nat), vs = [.ref r, .int (w : Nat)] ∧ ZM.Sq t K H r xs ∧ RTs K H F xs L ∧ (∀ l ∈ L, l.length = w) ∧ w ≤ 900 ∧ L.length ≤ 900 ∧ ∀ H' D ys, Same H H' → H D = none → H' D = some (.lst ys) → RTs K H' F ys (turnT F w L) → Q (.ref D) H'
theorem len_turned {K vs H Q E} (h : spTurnedP K vs H Q E) : vs.length = (["rows", "width"] : List Str).length := by
  obtain ⟨f, F, t, r, xs, L, w, rfl, _⟩ := h
  rfl
theorem d_turned {P : Program} {w : World} {K : PySem.W.Frag} {mg : Str → Option Value} {base : Heap} (R : Raw K mg "turned" s_turned) (B : Bn mg)  : Def P w K mg base "turned" 1 ["rows", "width"] (spTurnedP K) := by
  obtain ⟨f, fd, F, m⟩ := R
  refine ⟨f, fd, F.ok sc_turned (fun vs H Q E h => ?_) (fun cdv A outer s H vs Q E hr h => ?_), m, F.kp, F.binds (ps := ["rows", "width"]) fun _ _ _ _ _ _ us hl => match us, hl with | [_, _], _ => rfl⟩
  · exact len_turned h

  · obtain ⟨f, F, t, r, xs, L, w, rfl, hr, hL, hlen, w9, l9, q⟩ := h
    letI := F.fld
    letI := F.dec
    refine ⟨_, (pss_one (ps_ret (pe_lc (own := [("place", 2)]) (g := gName 2) (tt := tYes) rfl sc_turned.nd (pi_range1 (by rfl) B.range (pa_cons (pv 1) pa_nil)) (blkOk_by (N := ["rows", "width", "place", "row"]) (sc := defScope s_turned) (by decide +kernel)) (fun _ _ _ _ _ => pg_name (i := 2) sc_turned.nd rfl (Or.inr rfl)) (fun _ _ _ _ _ => pts_nil) (fun _ _ _ _ _ => (pe_callTy (show CallR _ (.type "tuple") (rTupOf K) from cr_tupOf) (by rfl) B.tuple (by decide +kernel) (pa_cons (pe_lc (own := [("row", 3)]) (g := gName 3) (tt := tYes) rfl sc_turned.nd (show PI _ _ _ (ZM.iSq K (tVar 0)) from ZM.pi_sq (pv 0)) (blkOk_by (N := ["rows", "width", "place", "row"]) (sc := { kind := PySem.ScopeKind.function, names := [ (PySem.Str.ofString ".0", PySem.NameKind.local), (PySem.Str.ofString "place", PySem.NameKind.cell), (PySem.Str.ofString "tuple", PySem.NameKind.globalImplicit), (PySem.Str.ofString "rows", PySem.NameKind.cell)], isGenerator := false, isCoroutine := false, more := [] : PySem.Scope }) (by decide +kernel)) (fun _ _ _ _ _ => pg_name (i := 3) sc_turned.nd rfl (Or.inl rfl)) (fun _ _ _ _ _ => pts_nil) (fun _ _ _ _ _ => (pe_ix (show IxR _ (rIxT K) from ix_tup) (pv 3) (pv 2) (fun _ _ => rfl)))) pa_nil)))))), ?_⟩
    have lx := hL.len
    refine ⟨_, rfl, (w : Nat), rfl, by omega, by omega, fun D hD => ?_⟩
    refine lc_range (lo := 0) (n := ((w : Nat) : Int).toNat) (fun j H' => Same H H' ∧ ∃ zs, H' D = some (.lst zs) ∧ RTs K H' F zs ((turnT F w L).take j)) ⟨same_new hD, [], upd_same, .nil⟩ ?_ ?_
    · rintro j H2 hj ⟨s2, zs, hz, nz⟩
      have hjw : j < w := by omega
      have e0 : (0 : Int) + (j : Int) = ((j : Nat) : Int) := Int.zero_add _
      rw [e0]
      refine ⟨rfl, tYes_of (iteT ⟨_, rfl, t, r, xs, rfl, Sq.same s2 hr, fun D2 hD2 => lc_it (ZM.walkS (t := t) (xs := xs)) (fun i H' => Same H2 H' ∧ ∃ ws, H' D2 = some (.lst ws) ∧ NumsV K H' ws (((L.map fun l => vec l j).take i).map F.enc)) ⟨same_new hD2, [], upd_same, .nil⟩ (fun i H' _ h => Sq.same (s2.trans h.1) hr) ?_ ?_⟩)⟩
      · rintro i x H3 H3' hi0 ⟨s3, ws, hw3, nw⟩ ⟨rfl, hi⟩
        obtain ⟨l, hl, p, ys, rfl, hp, hn⟩ := (hL.same (s2.trans s3)).pickV hi
        have hll := hlen l (List.mem_of_getElem? hl)
        obtain ⟨y, hy, ny⟩ := hn.pick (i := j) (by omega)
        refine ⟨rfl, tYes_of (iteT ⟨_, rfl, _, rfl, p, _, _, _, rfl, rfl, hp, atI_nat hy, ?_⟩)⟩
        have lw := nw.len
        rw [List.length_map, List.length_take, List.length_map] at lw
        refine ⟨ws, hw3, small1000 (by omega), same_seqT_upd s3 hD2 hw3, ws ++ [y], upd_same, ?_⟩
        have ei : (L.map fun l => vec l j)[i]? = some (vec l j) := by rw [List.getElem?_map, hl]; rfl
        rw [List.take_add_one, ei, List.map_append]
        exact NumsV.map (fun v q h => h.putL hw3) (NumsV.snoc nw ny)
      · rintro H3 ⟨s3, ws, hw3, nw⟩
        have lm : (L.map fun l => vec l j).length = L.length := List.length_map ..
        rw [lx, ← lm, List.take_length] at nw
        refine ⟨D2, ws, rfl, .inl ⟨SqL.of hw3, fun p hp => ?_⟩⟩
        have sp := same_new (o := .tup ws) hp
        have s23 := s3.trans sp
        have hz3 := s23 _ _ hz
        have lz := nz.len
        have lt : (turnT F w L).length = w := by
          unfold turnT
          rw [List.length_map, List.length_range]
        rw [List.length_take, lt] at lz
        refine ⟨zs, hz3, small1000 (by omega), same_seqT_upd (s2.trans s23) hD hz3, zs ++ [.ref p], upd_same, ?_⟩
        have ei : (turnT F w L)[j]? = some (L.map fun l => vec l j) := by
          unfold turnT
          rw [List.getElem?_map, List.getElem?_range hjw]
          rfl
        rw [List.take_add_one, ei]
        have tp := Tk.put (K := K) (o := .lst (zs ++ [.ref p])) hz3
        exact RTs.snoc (⟨p, ws, rfl, tp _ _ (SqT.of upd_same), NumsV.map (fun v q h => h.putL hz3) (NumsV.same sp nw)⟩) ((nz.same s23).tk tp)
    · rintro H2 ⟨s2, zs, hz, nz⟩
      have lt : (turnT F w L).length = w := by
        unfold turnT
        rw [List.length_map, List.length_range]
      rw [List.take_of_length_le (by omega)] at nz
      exact q _ D zs s2 hD hz nz
/-- columns one behind the other -/
def spStrung (K : PySem.W.Frag) : Sp := fun vs H Q _ => ∃ (f : Int) (F : Fd f) (t : Bool) (r : Addr) (xs : List V) (C : List (List F.F)), vs = [.ref r] ∧ ZM.Sq t K H r xs ∧ RTs K H F xs C ∧ C.flatten.length ≤ 900 ∧ ∀ H' v, Same H H' → RowT K H' F v C.flatten → Q v H'
theorem len_strung {K vs H Q E} (h : spStrung K vs H Q E) : vs.length = (["columns"] : List Str).length := by
  obtain ⟨f, F, t, r, xs, C, rfl, _⟩ := h
  rfl
open Lin
/-! ## stalkweb.leading -/
/-- a column in a tuple or a list -/
def RowA (K : PySem.W.Frag) (H : Hp) {f : Int} (F : Fd f) (v : V) (c : List F.F) : Prop := ∃ (u : Bool) (p : Addr) (ys : List V), v = .ref p ∧ ZM.Sq u K H p ys ∧ NumsV K H ys (c.map F.enc)
theorem RowT.any {K : PySem.W.Frag} {H : Hp} {f : Int} {F : Fd f} {v : V} {c : List F.F} (h : RowT K H F v c) : RowA K H F v c := by
  obtain ⟨p, ys, e, hp, hn⟩ := h
  exact ⟨true, p, ys, e, hp, hn⟩
theorem RowA.same {K : PySem.W.Frag} {H H' : Hp} {f : Int} {F : Fd f} {v : V} {c : List F.F} (h : RowA K H F v c) (s : Same H H') : RowA K H' F v c := by
  obtain ⟨u, p, ys, e, hp, hn⟩ := h
  exact ⟨u, p, ys, e, Sq.same s hp, NumsV.same s hn⟩
/-- a table in a tuple or a list -/
def TabA (K : PySem.W.Frag) (H : Hp) {f : Int} (F : Fd f) (v : V) (T : List (List F.F)) : Prop := ∃ (u : Bool) (a : Addr) (xs : List V), v = .ref a ∧ ZM.Sq u K H a xs ∧ RTs K H F xs T
theorem TabT.any {K : PySem.W.Frag} {H : Hp} {f : Int} {F : Fd f} {v : V} {T : List (List F.F)} (h : TabT K H F v T) : TabA K H F v T := by
  obtain ⟨a, xs, e, ha, hT⟩ := h
  exact ⟨true, a, xs, e, ha, hT⟩
def spPaired (K : PySem.W.Frag) : Sp := fun vs H Q _ => ∃ (f : Int) (row col : V) (F : Fd f) (l c : List F.F), vs = [.int f, row, col] ∧ IsF f ∧ RowT K H F row l ∧ RowA K H F col c ∧ l.length = c.length ∧ DotOk F l c ∧ ∀ H' v, Same H H' → (letI := F.fld; letI := F.dec; NumV K H' v (F.enc (dotN l c l.length))) → Q v H'
theorem len_paired {K vs H Q E} (h : spPaired K vs H Q E) : vs.length = (["field", "row", "column"] : List Str).length := by
  obtain ⟨f, row, col, F, l, c, rfl, _⟩ := h
  rfl
theorem d_paired {P : Program} {w : World} {K : PySem.W.Frag} {mg : Str → Option Value} {base : Heap} (R : Raw K mg "paired" s_paired) (B : Bn mg) (TN : NoughtAt K mg) (D_added : Def P w K mg base "added" 1 ["field", "one", "other"] (spTwo K addN)) (D_multiplied : Def P w K mg base "multiplied" 3 ["field", "one", "other"] (spTwo K mulN)) : Def P w K mg base "paired" 4 ["field", "row", "column"] (spPaired K) := by
  obtain ⟨f, fd, F, m⟩ := R
  obtain ⟨f_added, fd_added, G_added, m_added, k_added, b_added⟩ := D_added
  obtain ⟨f_multiplied, fd_multiplied, G_multiplied, m_multiplied, k_multiplied, b_multiplied⟩ := D_multiplied
  refine ⟨f, fd, F.ok sc_paired (fun vs H Q E h => ?_) (fun cdv A outer s H vs Q E hr h => ?_), m, F.kp, F.binds (ps := ["field", "row", "column"]) fun _ _ _ _ _ _ us hl => match us, hl with | [_, _, _], _ => rfl⟩
  · exact len_paired h

  · obtain ⟨a, row, col, F, l, c, rfl, hf, hl, hc, len, ⟨le, l1, b0, b1, b2, b3⟩, q⟩ := h
    obtain ⟨a_NOUGHT, m_NOUGHT, hN⟩ := TN
    letI := F.fld
    letI := F.dec
    refine ⟨_, (pss_cons (ps_set (i := 3) sc_paired.nd rfl (Or.inl rfl) (pe_glob (v := V.ref a_NOUGHT) (by rfl) m_NOUGHT rfl)) (pss_cons (ps_for PassesOwn.never rfl (ZM.pi_zip2 (by rfl) B.zip (pa_cons (pv 1) (pa_cons (pv 2) pa_nil))) (pg_tup (by rfl) (pgs_cons (pg_name (i := 4) sc_paired.nd rfl (Or.inl rfl)) (pgs_cons (pg_name (i := 5) sc_paired.nd rfl (Or.inl rfl)) pgs_nil))) (pss_one (ps_set (i := 3) sc_paired.nd rfl (Or.inl rfl) (pe_call G_added (hr.mono (by omega)) (by rfl) m_added k_added b_added .nil pass0 (pa_cons (pv 0) (pa_cons (pv 3) (pa_cons (pe_call G_multiplied (hr.mono (by omega)) (by rfl) m_multiplied k_multiplied b_multiplied .nil pass0 (pa_cons (pv 0) (pa_cons (pv 4) (pa_cons (pv 5) pa_nil)))) pa_nil))))))) (pss_one (ps_ret (pv 3))))), ?_⟩
    obtain ⟨pa, xs, rfl, hx, hn⟩ := id hl
    obtain ⟨ub, pb, ys, rfl, hy, hk⟩ := id hc
    have lx := hn.len
    have ly := hk.len
    rw [List.length_map] at lx ly
    refine ⟨_, rfl, _, rfl, true, ub, pa, pb, xs, ys, rfl, hx, hy, for_it (ZM.walk2 (n := l.length) (xs := xs) (ys := ys) (by omega)) (fun i σ H' => ∃ (v : V) (z4 z5 : Option V), Same H H' ∧ NumV K H' v (F.enc (dotN l c i)) ∧ σ = [some (.int a), some (.ref pa), some (.ref pb), some v, z4, z5]) ?_ (fun i σ H' _ h => ?_) ?_ ?_⟩
    · refine ⟨.ref a_NOUGHT, none, none, Same.refl H, ?_, rfl⟩
      show NumV K _ _ (F.enc 0)
      rw [F.zero]
      exact ⟨a_NOUGHT, rfl, hN H⟩
    · obtain ⟨v, z4, z5, s, _⟩ := h
      exact ⟨Same.seqT s hx, Sq.same s hy⟩
    · rintro i x σ H2 H3 hi ⟨v, z4, z5, s2, hv, rfl⟩ ⟨T, x1, y1, rfl, hT, rfl, e1, e2⟩
      obtain ⟨x2, e3, n2⟩ := hn.pick hi
      obtain ⟨y2, e4, n3⟩ := hk.pick (i := i) (by omega)
      cases e1.symm.trans e3
      cases e2.symm.trans e4
      have sT := same_new (o := .tup [x1, y1]) hT
      have sA := s2.trans sT
      refine ⟨T, _, rfl, SqT.of upd_same, rfl, _, _, rfl, _, _, rfl, rfl, ?_⟩
      refine ⟨_, rfl, _, rfl, _, rfl, _, rfl, _, rfl, a, x1, y1, F.enc (vec l i), F.enc (vec c i), rfl, hf, n2.same sA, n3.same sA, ⟨F.num _, b0 i⟩, ⟨F.num _, b1 i⟩, fun H4 u3 s3 hu3 => ?_⟩
      have hu3 : NumV K H4 u3 (F.enc (vec l i * vec c i)) := by
        rw [F.mul]
        exact hu3
      refine ⟨a, v, u3, F.enc (dotN l c i), F.enc (vec l i * vec c i), rfl, hf, (hv.same sT).same s3, hu3, ⟨F.num _, b3 i (by omega)⟩, ⟨F.num _, b2 i⟩, fun H5 u4 s4 hu4 => ?_⟩
      refine ⟨u4, _, _, sA.trans (s3.trans s4), ?_, rfl⟩
      show NumV K _ _ (F.enc (dotN l c i + vec l i * vec c i))
      rw [F.add]
      exact hu4
    · rintro σ H2 ⟨v, z4, z5, s2, hv, rfl⟩
      exact ⟨_, rfl, q _ _ s2 hv⟩
def ledL {f : Int} (F : Fd f) (T : List (List F.F)) (c : List F.F) : List F.F := letI := F.fld; letI := F.dec; T.map fun l => dotN l c l.length
def spLedP (K : PySem.W.Frag) : Sp := fun vs H Q _ => ∃ (f : Int) (t col : V) (F : Fd f) (T : List (List F.F)) (c : List F.F), vs = [.int f, t, col] ∧ IsF f ∧ TabA K H F t T ∧ RowA K H F col c ∧ T.length ≤ 900 ∧ (∀ l ∈ T, l.length = c.length) ∧ (∀ l ∈ T, DotOk F l c) ∧
  ∀ H' v, Same H H' → RowT K H' F v (ledL F T c) → Q v H'
theorem len_led {K vs H Q E} (h : spLedP K vs H Q E) : vs.length = (["field", "table", "column"] : List Str).length := by
  obtain ⟨f, r, col, F, L, c, rfl, _⟩ := h
  rfl
theorem d_led {P : Program} {w : World} {K : PySem.W.Frag} {mg : Str → Option Value} {base : Heap} (R : Raw K mg "led" s_led) (B : Bn mg) (D_paired : Def P w K mg base "paired" 4 ["field", "row", "column"] (spPaired K)) : Def P w K mg base "led" 5 ["field", "table", "column"] (spLedP K) := by
  obtain ⟨f, fd, F, m⟩ := R
  obtain ⟨f_paired, fd_paired, G_paired, m_paired, k_paired, b_paired⟩ := D_paired
  refine ⟨f, fd, F.ok sc_led (fun vs H Q E h => ?_) (fun cdv A outer s H vs Q E hr h => ?_), m, F.kp, F.binds (ps := ["field", "table", "column"]) fun _ _ _ _ _ _ us hl => match us, hl with | [_, _, _], _ => rfl⟩
  · exact len_led h

  · obtain ⟨a, t, col, F, L, c, rfl, hf, ht, hc, l9, hlen, hd, q⟩ := h
    letI := F.fld
    letI := F.dec
    refine ⟨_, (pss_one (ps_ret (pe_callTy call_tuple_of (by rfl) B.tuple (by decide +kernel) (pa_cons (pe_lc (own := [("row", 3)]) (g := gName 3) (tt := tYes) rfl sc_led.nd (ZM.pi_sq (pv 1)) (blkOk_by (N := ["field", "table", "column", "row"]) (sc := defScope s_led) (by decide +kernel)) (fun _ _ _ _ _ => pg_name (i := 3) sc_led.nd rfl (Or.inl rfl)) (fun _ _ _ _ _ => pts_nil) (fun _ _ _ _ _ => (pe_call G_paired (hr.mono (by omega)) (by rfl) m_paired k_paired b_paired .nil pass0 (pa_cons (pv 0) (pa_cons (pv 3) (pa_cons (pv 2) pa_nil)))))) pa_nil)))), ?_⟩
    obtain ⟨ut, r, xs, rfl, hx, hL⟩ := ht
    have lx := hL.len
    refine ⟨_, rfl, ut, r, xs, rfl, hx, fun D hD => lc_it (ZM.walkS (xs := xs)) (fun i H' => Same H H' ∧ ∃ zs, H' D = some (.lst zs) ∧ NumsV K H' zs (((ledL F L c).take i).map F.enc)) ⟨same_new hD, [], upd_same, .nil⟩ (fun i H' _ ⟨s, _⟩ => Sq.same s hx) ?_ ?_⟩
    · rintro i x H2 H2' hi0 ⟨s2, zs, hz, nz⟩ ⟨rfl, hi⟩
      obtain ⟨l, hl, hxl⟩ := (hL.same s2).pickV hi
      have hil := (List.getElem?_eq_some_iff.mp hi).1
      refine ⟨rfl, tYes_of (iteT ⟨_, rfl, _, rfl, _, rfl, a, x, col, F, l, c, rfl, hf, hxl, hc.same s2, hlen l (List.mem_of_getElem? hl), hd l (List.mem_of_getElem? hl), fun H5 u5 s5 hu5 => ?_⟩)⟩
      have hz5 := s5 _ _ hz
      have lz := nz.len
      have lL : (ledL F L c).length = L.length := List.length_map ..
      rw [List.length_map, List.length_take, lL] at lz
      refine ⟨zs, hz5, small1000 (by omega), same_seqT_upd (s2.trans s5) hD hz5, zs ++ [u5], upd_same, ?_⟩
      have ei : (ledL F L c)[i]? = some (dotN l c l.length) := by
        unfold ledL
        rw [List.getElem?_map, hl]
        rfl
      rw [List.take_add_one, ei, List.map_append]
      exact NumsV.map (fun v q h => h.putL hz5) (NumsV.snoc (NumsV.same s5 nz) hu5)
    · rintro H2 ⟨s2, zs, hz, nz⟩
      have lL : (ledL F L c).length = L.length := List.length_map ..
      rw [List.take_of_length_le (by omega)] at nz
      exact ⟨D, zs, rfl, .inl ⟨SqL.of hz, fun p hp => q _ _ (s2.trans (same_new hp)) ⟨p, zs, rfl, SqT.of upd_same, NumsV.same (same_new hp) nz⟩⟩⟩

open Lin
/-! ## goings -/
def rListOf (K : PySem.W.Frag) : List V → Hp → VK → Prop := fun xs H Q => ∃ p ys, xs = [.ref p] ∧ (SqL K H p ys ∨ SqT K H p ys) ∧ ∀ l : Addr, H l = none → Q (.ref l) (upd H l (.lst ys))
theorem cr_listOf {X : Cx} : CallR X (.type "list") (rListOf X.K) := call_list_of
def spStillT (K : PySem.W.Frag) : Sp := fun vs H Q _ => ∃ (f : Int) (F : Fd f) (n : Nat), vs = [.int (n : Nat)] ∧ n ≤ 900 ∧ ∀ H' v, Same H H' → (letI := F.fld; letI := F.dec; TabT K H' F v (tblOf n n fun p => unL n p)) → Q v H'
theorem len_still_table {K vs H Q E} (h : spStillT K vs H Q E) : vs.length = (["room"] : List Str).length := by
  obtain ⟨f, F, n, rfl, _⟩ := h
  rfl
theorem tblOf_get {F : Type} [Lean.Grind.Field F] {n w i : Nat} {g : Nat → List F} (h : i < n) : (tblOf n w g)[i]? = some ((List.range w).map fun p => vec (g p) i) := by
  unfold tblOf
  rw [List.getElem?_map, List.getElem?_range h]
  rfl
theorem d_still_table {P : Program} {w : World} {K : PySem.W.Frag} {mg : Str → Option Value} {base : Heap} (R : Raw K mg "still_table" s_still_table) (B : Bn mg) (TN : NoughtAt K mg) (TO : OneAt K mg)  : Def P w K mg base "still_table" 1 ["room"] (spStillT K) := by
  obtain ⟨f, fd, F, m⟩ := R
  refine ⟨f, fd, F.ok sc_still_table (fun vs H Q E h => ?_) (fun cdv A outer s H vs Q E hr h => ?_), m, F.kp, F.binds (ps := ["room"]) fun _ _ _ _ _ _ us hl => match us, hl with | [_], _ => rfl⟩
  · exact len_still_table h

  · obtain ⟨f0, F, n, rfl, n9, q⟩ := h
    obtain ⟨a_NOUGHT, m_NOUGHT, hN⟩ := TN
    obtain ⟨a_ONE, m_ONE, hO⟩ := TO
    letI := F.fld
    letI := F.dec
    refine ⟨_, (pss_one (ps_ret (pe_callTy call_tuple_of (by rfl) B.tuple (by decide +kernel) (pa_cons (pe_lc (own := [("place", 1)]) (g := gName 1) (tt := tYes) rfl sc_still_table.nd (pi_range1 (by rfl) B.range (pa_cons (pv 0) pa_nil)) (blkOk_by (N := ["room", "place", "at"]) (sc := defScope s_still_table) (by decide +kernel)) (fun _ _ _ _ _ => pg_name (i := 1) sc_still_table.nd rfl (Or.inr rfl)) (fun _ _ _ _ _ => pts_nil) (fun _ _ _ _ _ => (pe_callTy (show CallR _ (.type "tuple") (rTupOf K) from cr_tupOf) (by rfl) B.tuple (by decide +kernel) (pa_cons (pe_lc (own := [("at", 2)]) (g := gName 2) (tt := tYes) rfl sc_still_table.nd (pi_range1 (by rfl) B.range (pa_cons (pv 0) pa_nil)) (blkOk_by (N := ["room", "place", "at"]) (sc := { kind := PySem.ScopeKind.function, names := [ (PySem.Str.ofString ".0", PySem.NameKind.local), (PySem.Str.ofString "place", PySem.NameKind.cell), (PySem.Str.ofString "tuple", PySem.NameKind.globalImplicit), (PySem.Str.ofString "range", PySem.NameKind.globalImplicit), (PySem.Str.ofString "room", PySem.NameKind.cell)], isGenerator := false, isCoroutine := false, more := [] : PySem.Scope }) (by decide +kernel)) (fun _ _ _ _ _ => pg_name (i := 2) sc_still_table.nd rfl (Or.inl rfl)) (fun _ _ _ _ _ => pts_nil) (fun _ _ _ _ _ => (pe_ifExp (pt_cmpR op_eq (pv 2) (pv 1) (nomark _)) (pe_glob (v := V.ref a_ONE) (by rfl) m_ONE rfl) (pe_glob (v := V.ref a_NOUGHT) (by rfl) m_NOUGHT rfl)))) pa_nil)))) pa_nil)))), ?_⟩
    refine ⟨_, rfl, (n : Nat), rfl, by omega, by omega, fun D hD => ?_⟩
    refine lc_range (lo := 0) (n := ((n : Nat) : Int).toNat) (fun j H' => Same H H' ∧ ∃ zs, H' D = some (.lst zs) ∧ RTs K H' F zs ((tblOf n n fun p => unL n p).take j)) ⟨same_new hD, [], upd_same, .nil⟩ ?_ ?_
    · rintro j H2 hj ⟨s2, zs, hz, nz⟩
      have hjw : j < n := by omega
      have e0 : (0 : Int) + (j : Int) = ((j : Nat) : Int) := Int.zero_add _
      rw [e0]
      refine ⟨rfl, tYes_of (iteT ⟨_, rfl, (n : Nat), rfl, by omega, by omega, fun D2 hD2 => lc_range (lo := 0) (n := ((n : Nat) : Int).toNat) (fun i H' => Same H2 H' ∧ ∃ ws, H' D2 = some (.lst ws) ∧ NumsV K H' ws (((((List.range n).map fun p => vec (unL n p) j)).take i).map F.enc)) ⟨same_new hD2, [], upd_same, .nil⟩ ?_ ?_⟩)⟩
      · rintro i H3 hi ⟨s3, ws, hw3, nw⟩
        have hiw : i < n := by omega
        have e1 : (0 : Int) + (i : Int) = ((i : Nat) : Int) := Int.zero_add _
        rw [e1]
        have ei : ((List.range n).map fun p => vec (unL n p : List F.F) j)[i]? = some (if j = i then 1 else 0) := by
          rw [List.getElem?_map, List.getElem?_range hiw]
          show some (vec (unL n i : List F.F) j) = _
          rw [unL_vec hjw]
          rfl
        have fin : ∀ {u : V} {x : F.F}, NumV K H3 u (F.enc x) → x = (if j = i then 1 else 0) → ∃ acc, H3 D2 = some (.lst acc) ∧ acc.length < sizeLine ∧ Same H2 (upd H3 D2 (.lst (acc ++ [u]))) ∧ ∃ ws, upd H3 D2 (.lst (acc ++ [u])) D2 = some (.lst ws) ∧ NumsV K (upd H3 D2 (.lst (acc ++ [u]))) ws ((((List.range n).map fun p => vec (unL n p : List F.F) j).take (i + 1)).map F.enc) := fun {u x} hu ex => by
          have lw := nw.len
          rw [List.length_map, List.length_take, List.length_map, List.length_range] at lw
          refine ⟨ws, hw3, small1000 (by omega), same_seqT_upd s3 hD2 hw3, _, upd_same, ?_⟩
          rw [List.take_add_one, ei, List.map_append, ← ex]
          exact NumsV.map (fun v q h => h.putL hw3) (NumsV.snoc nw hu)
        refine ⟨rfl, _, rfl, _, rfl, rfl, _, rfl, ite2 (fun e => ?_) (fun e => ?_)⟩
        · refine fin (x := 1) (by rw [F.one]; exact ⟨_, rfl, hO H3⟩) ?_
          have e := V.int.inj (of_decide_eq_true e)
          rw [if_pos (by omega)]
        · refine fin (x := 0) (by rw [F.zero]; exact ⟨_, rfl, hN H3⟩) ?_
          rw [if_neg fun z => e (decide_eq_true (by rw [z]))]
      · rintro H3 ⟨s3, ws, hw3, nw⟩
        have lm : ((List.range n).map fun p => vec (unL n p : List F.F) j).length = n := by rw [List.length_map, List.length_range]
        rw [List.take_of_length_le (by omega)] at nw
        refine ⟨D2, ws, rfl, .inl ⟨SqL.of hw3, fun p hp => ?_⟩⟩
        have sp := same_new (o := .tup ws) hp
        have s23 := s3.trans sp
        have hz3 := s23 _ _ hz
        have lz := nz.len
        rw [List.length_take, tblOf_tbl.len] at lz
        refine ⟨zs, hz3, small1000 (by omega), same_seqT_upd (s2.trans s23) hD hz3, zs ++ [.ref p], upd_same, ?_⟩
        rw [List.take_add_one, tblOf_get hjw]
        have tp := Tk.put (K := K) (o := .lst (zs ++ [.ref p])) hz3
        exact RTs.snoc (⟨p, ws, rfl, tp _ _ (SqT.of upd_same), NumsV.map (fun v q h => h.putL hz3) (NumsV.same sp nw)⟩) ((nz.same s23).tk tp)
    · rintro H2 ⟨s2, zs, hz, nz⟩
      rw [List.take_of_length_le (by rw [tblOf_tbl.len]; omega)] at nz
      exact ⟨D, zs, rfl, .inl ⟨SqL.of hz, fun p hp => q _ _ (s2.trans (same_new hp)) ⟨p, zs, rfl, SqT.of upd_same, nz.same (same_new hp)⟩⟩⟩
/-- one table behind the other -/
def JoinOk {f : Int} (F : Fd f) (M N : List (List F.F)) (w : Nat) : Prop := letI := F.fld; letI := F.dec; ∀ a ∈ M, ∀ p, p < w → DotOk F (colT p N) a
def spJoined (K : PySem.W.Frag) : Sp := fun vs H Q _ => ∃ (f : Int) (F : Fd f) (tv ov : V) (M N : List (List F.F)) (l n m : Nat), vs = [.int f, tv, ov, .int (l : Nat)] ∧ IsF f ∧ TabT K H F tv M ∧ TabA K H F ov N ∧ Tbl n m M ∧ Tbl m l N ∧ n ≤ 900 ∧ m ≤ 900 ∧ l ≤ 900 ∧ JoinOk F M N l ∧ ∀ H' v, Same H H' → (letI := F.fld; letI := F.dec; TabT K H' F v (joinL M N l)) → Q v H'
theorem len_joined {K vs H Q E} (h : spJoined K vs H Q E) : vs.length = (["field", "table", "other", "length"] : List Str).length := by
  obtain ⟨f, F, tv, ov, M, N, l, n, m, rfl, _⟩ := h
  rfl
theorem d_joined {P : Program} {w : World} {K : PySem.W.Frag} {mg : Str → Option Value} {base : Heap} (R : Raw K mg "joined" s_joined) (B : Bn mg) (D_turned : Def P w K mg base "turned" 1 ["rows", "width"] (spTurnedP K)) (D_led : Def P w K mg base "led" 5 ["field", "table", "column"] (spLedP K)) : Def P w K mg base "joined" 6 ["field", "table", "other", "length"] (spJoined K) := by
  obtain ⟨f, fd, F, m⟩ := R
  obtain ⟨f_turned, fd_turned, G_turned, m_turned, k_turned, b_turned⟩ := D_turned
  obtain ⟨f_led, fd_led, G_led, m_led, k_led, b_led⟩ := D_led
  refine ⟨f, fd, F.ok sc_joined (fun vs H Q E h => ?_) (fun cdv A outer s H vs Q E hr h => ?_), m, F.kp, F.binds (ps := ["field", "table", "other", "length"]) fun _ _ _ _ _ _ us hl => match us, hl with | [_, _, _, _], _ => rfl⟩
  · exact len_joined h

  · obtain ⟨a, F, tv, ov, M, N, l, n, m, rfl, hf, ⟨p, xs, rfl, hx, hM⟩, ⟨u, r, ys, rfl, hy, hN⟩, tM, tN, n9, m9, l9, ok, q⟩ := h
    letI := F.fld
    letI := F.dec
    refine ⟨_, (pss_cons (ps_set (i := 4) sc_joined.nd rfl (Or.inr rfl) (pe_call G_turned (hr.mono (by omega)) (by rfl) m_turned k_turned b_turned .nil pass0 (pa_cons (pv 2) (pa_cons (pv 3) pa_nil)))) (pss_one (ps_ret (pe_callTy call_tuple_of (by rfl) B.tuple (by decide +kernel) (pa_cons (pe_lc (own := [("row", 5)]) (g := gName 5) (tt := tYes) rfl sc_joined.nd (pi_tup (pv 1)) (blkOk_by (N := ["field", "table", "other", "length", "columns", "row"]) (sc := defScope s_joined) (by decide +kernel)) (fun _ _ _ _ _ => pg_name (i := 5) sc_joined.nd rfl (Or.inl rfl)) (fun _ _ _ _ _ => pts_nil) (fun _ _ _ _ _ => (pe_call G_led (hr.mono (by omega)) (by rfl) m_led k_led b_led .nil pass0 (pa_cons (pv 0) (pa_cons (pv 4) (pa_cons (pv 5) pa_nil)))))) pa_nil))))), ?_⟩
    refine ⟨_, rfl, _, rfl, a, F, u, r, ys, N, l, rfl, hy, hN, tN.wid, l9, by rw [tN.len]; exact m9, fun H1 D zs s1 nD eD hC => ?_⟩
    have tC : Tbl l m ((List.range l).map fun p => colT p N) := tbl_cols tN.len
    refine ⟨_, rfl, p, rfl, ⟨_, Same.seqT s1 hx⟩, fun D2 hD2 => lc_tup (K := K) (a := p) (xs := xs) (fun i H' => Same H1 H' ∧ ∃ ws, H' D2 = some (.lst ws) ∧ RTs K H' F ws ((joinL M N l).take i)) ⟨same_new hD2, [], upd_same, .nil⟩ (fun i H' _ ⟨s, _⟩ => Same.seqT (s1.trans s) hx) ?_ ?_⟩
    · rintro i x H3 hi ⟨s3, ws, hw3, nw⟩
      obtain ⟨row, hr, hrow⟩ := (hM.same (s1.trans s3)).pickV hi
      have hrm := List.mem_of_getElem? hr
      refine ⟨rfl, tYes_of (iteT ⟨_, rfl, _, rfl, _, rfl, a, .ref D, x, F, turnT F l N, row, rfl, hf, ⟨false, D, zs, rfl, SqL.of (s3 _ _ eD), hC.same s3⟩, hrow.any, (by show (turnT F l N).length ≤ 900; exact Nat.le_trans (Nat.le_of_eq tC.len) l9), fun c hc => ?_, fun c hc => ?_, fun H5 u5 s5 hu5 => ?_⟩)⟩
      · rw [tC.wid c hc, tM.wid row hrm]
      · obtain ⟨p, hp, rfl⟩ := List.mem_map.mp hc
        exact ok row hrm p (List.mem_range.mp hp)
      · have hz5 := s5 _ _ hw3
        have lz := nw.len
        rw [List.length_take, (join_tbl (w := l) tM).len] at lz
        refine ⟨ws, hz5, small1000 (by omega), same_seqT_upd (s3.trans s5) hD2 hz5, ws ++ [u5], upd_same, ?_⟩
        have ej : (joinL M N l)[i]? = some (ledL F (turnT F l N) row) := by
          unfold joinL
          rw [List.getElem?_map, hr]
          rfl
        rw [List.take_add_one, ej]
        have tp := Tk.put (K := K) (o := .lst (ws ++ [u5])) hz5
        exact RTs.snoc (hu5.tk tp) ((nw.same s5).tk tp)
    · rintro H3 ⟨s3, ws, hw3, nw⟩
      have lx := hM.len
      rw [List.take_of_length_le (by rw [(join_tbl (w := l) tM).len, lx, tM.len]; exact Nat.le_refl _)] at nw
      exact ⟨D2, ws, rfl, .inl ⟨SqL.of hw3, fun p hp => q _ _ ((s1.trans s3).trans (same_new hp)) ⟨p, ws, rfl, SqT.of upd_same, nw.same (same_new hp)⟩⟩⟩
theorem sl_any {K : PySem.W.Frag} {H : Hp} {a : Addr} {xs : List V} {lo hi : Option Int} {Q : VK} (ha : SqT K H a xs) (k : ∀ H' p, Same H H' → SqT K H' p (cutV xs lo hi) → Q (.ref p) H') : rSlA K (.ref a) lo hi H Q :=
  ⟨a, xs, rfl, ha, fun ⟨z1, z2⟩ => k H a (Same.refl _) (by
    have e : cutV xs lo hi = xs := by
      unfold cutV
      rw [z1, z2, List.drop_zero, Nat.sub_zero, List.take_length]
    rw [e]
    exact ha), fun _ p hp => k _ p (same_new hp) (SqT.of upd_same)⟩
theorem catA_go {K : PySem.W.Frag} {a b : Addr} {xs ys : List V} {H : Hp} {Q : VK} (ha : SqT K H a xs) (hb : SqT K H b ys) (hz : xs.length + ys.length ≤ sizeLine) (q : ∀ H' p, Same H H' → SqT K H' p (xs ++ ys) → Q (.ref p) H') : rCatA K (.ref a) (.ref b) H Q := by
  refine ⟨a, b, xs, ys, rfl, rfl, ha, hb, hz, fun e => ?_, fun _ e => ?_, fun _ _ p hp => q _ _ (same_new hp) (SqT.of upd_same)⟩
  · subst e
    exact q _ _ (Same.refl H) hb
  · subst e
    rw [List.append_nil] at q
    exact q _ _ (Same.refl H) ha
theorem slA_go {K : PySem.W.Frag} {a : Addr} {xs : List V} {lo hi : Option Int} {H : Hp} {Q : VK} (ha : SqT K H a xs) (q : ∀ H' p, Same H H' → SqT K H' p (cutV xs lo hi) → Q (.ref p) H') : rSlA K (.ref a) lo hi H Q := by
  refine ⟨a, xs, rfl, ha, fun e => ?_, fun _ p hp => q _ _ (same_new hp) (SqT.of upd_same)⟩
  refine q _ _ (Same.refl H) ?_
  unfold cutV
  rw [e.1, e.2, List.drop_zero, Nat.sub_zero, List.take_of_length_le (Nat.le_refl _)]
  exact ha

open Lin
/-! ## tables of pairs, and how great they may be -/
section
variable {f : Int} {D : Fd f}
theorem Ht.ofc (hf : IsF f) : ∀ {l : List D.F} {cs : List Nat}, l.length = cs.length → (letI := D.fld; ∀ i, i < l.length → vec l i = 0 ∨ Sz D (cs.getD i 0) (vec l i)) → letI := D.fld; Ht D (cs.sum + 1) (vec l)
  | [], [], _, _ => by
    letI := D.fld
    refine ⟨1, fun _ => 0, ?_, (by decide), fun j => ⟨Nat.two_pow_pos _, ?_⟩⟩
    · rw [D.ofI_one]
      exact one_ne
    · rw [ofI_zero]
      show (0 : D.F) = _
      grind
  | x :: l, c :: cs, e, h => by
    letI := D.fld
    have ih := Ht.ofc hf (l := l) (cs := cs) (Nat.succ.inj e) fun i hi => by
      have := h (i + 1) (by show i + 1 < l.length + 1; omega)
      simpa [vec] using this
    have hx := h 0 (by show 0 < l.length + 1; omega)
    have hx : x = 0 ∨ Sz D c x := hx
    obtain ⟨d, z, d0, d1, d2⟩ := ih
    have en : (c :: cs).sum + 1 = (cs.sum + 1) + c := by rw [List.sum_cons]; omega
    rw [en]
    rcases hx with rfl | ⟨s1, s2⟩
    · refine ⟨d, fun j => match j with | 0 => 0 | j + 1 => z j, d0, Nat.lt_of_lt_of_le d1 (Nat.pow_le_pow_right (by decide) (by omega)), fun j => ?_⟩
      cases j with
      | zero =>
        refine ⟨Nat.two_pow_pos _, ?_⟩
        show (0 : D.F) = D.ofI 0 * (D.ofI d)⁻¹
        rw [ofI_zero]
        grind
      | succ j => exact ⟨Nat.lt_of_lt_of_le (d2 j).1 (Nat.pow_le_pow_right (by decide) (by omega)), (d2 j).2⟩
    · obtain ⟨b0, e⟩ := num_div (D := D) hf x
      refine ⟨d * (D.enc x).2, fun j => match j with | 0 => d * (D.enc x).1 | j + 1 => z j * (D.enc x).2, ?_, ?_, fun j => ?_⟩
      · rw [D.ofI_mul]
        generalize D.ofI d = A at *
        generalize D.ofI (D.enc x).2 = B at *
        grind
      · rw [Int.natAbs_mul]
        exact two_pow d1 s2
      · cases j with
        | zero =>
          refine ⟨?_, ?_⟩
          · show (d * (D.enc x).1).natAbs < _
            rw [Int.natAbs_mul]
            exact two_pow d1 s1
          · show x = D.ofI (d * (D.enc x).1) * (D.ofI (d * (D.enc x).2))⁻¹
            rw [D.ofI_mul, D.ofI_mul]
            generalize D.ofI d = A at *
            generalize D.ofI (D.enc x).2 = B at *
            generalize D.ofI (D.enc x).1 = C at *
            grind
        | succ j =>
          refine ⟨?_, ?_⟩
          · show (z j * (D.enc x).2).natAbs < _
            rw [Int.natAbs_mul]
            exact two_pow (d2 j).1 s2
          · show vec l j = D.ofI (z j * (D.enc x).2) * (D.ofI (d * (D.enc x).2))⁻¹
            rw [D.ofI_mul, D.ofI_mul, (d2 j).2]
            generalize D.ofI d = A at *
            generalize D.ofI (D.enc x).2 = B at *
            generalize D.ofI (z j) = C at *
            grind
end
theorem dot_ht5 {f : Int} {D : Fd f} {l c : List D.F} {h g : Nat} (hl : letI := D.fld; Ht D h (vec l)) (hc : letI := D.fld; Ht D g (vec c)) (k : Nat) (hk : k ≤ 31) :
    letI := D.fld; letI := D.dec; Ht D (h + (g + 5)) (fun _ => dotN l c k) := by
  letI := D.fld
  letI := D.dec
  obtain ⟨d, z, d0, d1, d2⟩ := hl
  obtain ⟨e, y, e0, e1, e2⟩ := hc
  have hs := dot_sum d0 e0 (fun j => (d2 j).2) (fun j => (e2 j).2) k
  have hb : (sumI z y k).natAbs < 2 ^ (h + (g + 5)) := by
    have h1 := sumI_le (fun j => (d2 j).1) (fun j => (e2 j).1) k
    have h2 : k * 2 ^ (h + g) ≤ 31 * 2 ^ (h + g) := Nat.mul_le_mul_right _ hk
    have h3 : 2 ^ (h + (g + 5)) = 2 ^ (h + g) * 32 := by rw [← Nat.add_assoc, Nat.pow_add]
    have h4 : 0 < 2 ^ (h + g) := Nat.two_pow_pos _
    omega
  have be : e.natAbs < 2 ^ (g + 5) := Nat.lt_of_lt_of_le e1 (Nat.pow_le_pow_right (by decide) (by omega))
  refine ⟨d * e, fun _ => sumI z y k, ?_, ?_, fun j => ⟨hb, hs⟩⟩
  · rw [D.ofI_mul]
    generalize D.ofI d = A at *
    generalize D.ofI e = B at *
    grind
  · rw [Int.natAbs_mul]
    exact two_pow d1 be
theorem dot_okW {f : Int} (hf : IsF f) {F : Fd f} {l c : List F.F} {h g : Nat} (hl : letI := F.fld; Ht F h (vec l)) (hc : letI := F.fld; Ht F g (vec c)) (h7 : 7 ≤ h) (g7 : 7 ≤ g) (len : l.length ≤ c.length) (l31 : l.length ≤ 31) (hb : h + (g + 5) ≤ 6700) : DotOk F l c := by
  letI := F.fld
  letI := F.dec
  have sl := fun j => hl.sm hf h7 j
  have sc := fun j => hc.sm hf g7 j
  exact ⟨len, by omega, fun j => Sm.mono (sl j) (by omega), fun j => Sm.mono (sc j) (by omega), fun j => (sz_mul hf h7 (sl j) (sc j)).mono (by omega), fun k hk => Sm.mono ((dot_ht5 hl hc k (by omega)).sm hf (by omega) 0) (by omega)⟩
def cst (q : Pr) : Nat := if q.1.natAbs ≤ 99 ∧ q.2.natAbs ≤ 99 then 7 else 110
theorem cst_le (q : Pr) : cst q ≤ 110 := by
  unfold cst
  split <;> omega
theorem cst_99 {q : Pr} (h : S99 q) : cst q = 7 := if_pos h
theorem cst_sm {q : Pr} (h : Sm 110 q) : Sm (cst q) q := by
  unfold cst
  split
  · rename_i h
    exact S99.sm h
  · exact h
def costT (T : List (List Pr)) : Nat := (T.flatten.map cst).sum
structure TabC (T : List (List Pr)) (r w c : Nat) : Prop where
  len : T.length ≤ r
  wid : ∀ qs ∈ T, qs.length ≤ w
  sm : ∀ qs ∈ T, ∀ q ∈ qs, Sm 110 q
  cost : costT T ≤ c
theorem cost_app {A B : List (List Pr)} : costT (A ++ B) = costT A + costT B := by
  unfold costT
  rw [List.flatten_append, List.map_append, List.sum_append]
theorem cost_one {qs : List Pr} : costT [qs] = (qs.map cst).sum := by
  unfold costT
  rw [List.flatten_cons, List.flatten_nil, List.append_nil]
theorem sum_le {qs : List Pr} {c : Nat} (h : ∀ q ∈ qs, cst q ≤ c) : (qs.map cst).sum ≤ c * qs.length := by
  induction qs with
  | nil => exact Nat.zero_le _
  | cons q qs ih =>
    rw [List.map_cons, List.sum_cons, List.length_cons, Nat.mul_succ]
    have := h q (List.mem_cons_self ..)
    have := ih fun x hx => h x (List.mem_cons_of_mem _ hx)
    omega
theorem cost_le {T : List (List Pr)} {w c : Nat} (h : ∀ qs ∈ T, qs.length ≤ w ∧ ∀ q ∈ qs, cst q ≤ c) : costT T ≤ c * w * T.length := by
  induction T with
  | nil => exact Nat.zero_le _
  | cons qs T ih =>
    have e : costT (qs :: T) = costT [qs] + costT T := cost_app (A := [qs]) (B := T)
    rw [e, cost_one, List.length_cons, Nat.mul_succ]
    obtain ⟨h1, h2⟩ := h qs (List.mem_cons_self ..)
    have h3 := sum_le h2
    have h4 : c * qs.length ≤ c * w := Nat.mul_le_mul_left _ h1
    have := ih fun x hx => h x (List.mem_cons_of_mem _ hx)
    omega
theorem cost_take {T : List (List Pr)} (n : Nat) : costT (T.take n) ≤ costT T := by
  have e := cost_app (A := T.take n) (B := T.drop n)
  rw [List.take_append_drop] at e
  omega
theorem cost_set {T : List (List Pr)} {n : Nat} {r r' : List Pr} {k : Nat} (h : T[n]? = some r) (hk : (r'.map cst).sum ≤ (r.map cst).sum + k) : costT (T.take n ++ [r'] ++ T.drop (n + 1)) ≤ costT T + k := by
  have hn := (List.getElem?_eq_some_iff.mp h).1
  have e1 : T = T.take n ++ [r] ++ T.drop (n + 1) := by
    have e : T.drop n = r :: T.drop (n + 1) := by
      rw [List.drop_eq_getElem_cons hn, (List.getElem?_eq_some_iff.mp h).2]
    rw [List.append_assoc]
    show T = T.take n ++ (r :: T.drop (n + 1))
    rw [← e, List.take_append_drop]
  have e2 : costT T = costT (T.take n ++ [r] ++ T.drop (n + 1)) := congrArg costT e1
  rw [cost_app, cost_app, cost_one] at e2 ⊢
  omega
theorem TabC.set {T : List (List Pr)} {r w w' c k n : Nat} {x x' : List Pr} (h : TabC T r w c) (hx : T[n]? = some x) (hw : w ≤ w') (hl : x'.length ≤ w') (hs : ∀ q ∈ x', Sm 110 q) (hk : (x'.map cst).sum ≤ (x.map cst).sum + k) : TabC (T.take n ++ [x'] ++ T.drop (n + 1)) r w' (c + k) := by
  have hn := (List.getElem?_eq_some_iff.mp hx).1
  have cut : ∀ y ∈ T.take n ++ [x'] ++ T.drop (n + 1), y ∈ T ∨ y = x' := fun y hy => by
    rcases List.mem_append.mp hy with hy | hy
    · rcases List.mem_append.mp hy with hy | hy
      · exact .inl (List.mem_of_mem_take hy)
      · exact .inr (List.mem_singleton.mp hy)
    · exact .inl (List.mem_of_mem_drop hy)
  refine ⟨?_, fun y hy => ?_, fun y hy => ?_, ?_⟩
  · rw [List.length_append, List.length_append, List.length_take, List.length_drop]
    have := h.len
    show min n T.length + 1 + (T.length - (n + 1)) ≤ r
    omega
  · rcases cut y hy with hy | rfl
    · have := h.wid y hy
      omega
    · exact hl
  · rcases cut y hy with hy | rfl
    · exact h.sm y hy
    · exact hs
  · have := cost_set hx hk
    have := h.cost
    omega
theorem TabC.mono {T : List (List Pr)} {r w c r' w' c' : Nat} (h : TabC T r w c) (hr : r ≤ r') (hw : w ≤ w') (hc : c ≤ c') : TabC T r' w' c' := ⟨Nat.le_trans h.len hr, fun y hy => Nat.le_trans (h.wid y hy) hw, h.sm, Nat.le_trans h.cost hc⟩
theorem TabC.app {T U : List (List Pr)} {r w c r2 c2 : Nat} (h : TabC T r w c) (g : TabC U r2 w c2) : TabC (T ++ U) (r + r2) w (c + c2) := by
  refine ⟨?_, fun y hy => ?_, fun y hy => ?_, ?_⟩
  · have := h.len
    have := g.len
    rw [List.length_append]
    omega
  · rcases List.mem_append.mp hy with hy | hy
    · exact h.wid y hy
    · exact g.wid y hy
  · rcases List.mem_append.mp hy with hy | hy
    · exact h.sm y hy
    · exact g.sm y hy
  · have := h.cost
    have := g.cost
    rw [cost_app]
    omega
theorem TabC.take {T : List (List Pr)} {r w c : Nat} (h : TabC T r w c) (n : Nat) : TabC (T.take n) n w c := ⟨by rw [List.length_take]; omega, fun y hy => h.wid y (List.mem_of_mem_take hy), fun y hy => h.sm y (List.mem_of_mem_take hy), Nat.le_trans (cost_take n) h.cost⟩
/-- good pairs are numbers -/
theorem good_lift {f : Int} {F : Fd f} : ∀ {qs : List Pr}, goodAll f qs = true → ∃ l : List F.F, l.map F.enc = qs
  | [], _ => ⟨[], rfl⟩
  | q :: qs, h => by
    unfold goodAll at h
    rw [List.all_cons, Bool.and_eq_true] at h
    obtain ⟨x, hx⟩ := F.sur q (isNB_iff.mp h.1)
    obtain ⟨l, hl⟩ := good_lift (F := F) (qs := qs) h.2
    exact ⟨x :: l, by rw [List.map_cons, hx, hl]⟩
theorem goods_lift {f : Int} {F : Fd f} : ∀ {T : List (List Pr)}, T.all (goodAll f) = true → ∃ L : List (List F.F), L.map (fun l => l.map F.enc) = T
  | [], _ => ⟨[], rfl⟩
  | q :: qs, h => by
    rw [List.all_cons, Bool.and_eq_true] at h
    obtain ⟨x, hx⟩ := good_lift (F := F) h.1
    obtain ⟨l, hl⟩ := goods_lift (F := F) (T := qs) h.2
    exact ⟨x :: l, by rw [List.map_cons, hx, hl]⟩
theorem ht_pairs {f : Int} (hf : IsF f) {F : Fd f} {l : List F.F} (h : ∀ q ∈ l.map F.enc, Sm 110 q) : letI := F.fld; Ht F (((l.map F.enc).map cst).sum + 1) (vec l) := by
  letI := F.fld
  letI := F.dec
  refine Ht.ofc hf (by rw [List.length_map, List.length_map]) fun i hi => .inr ?_
  have e : l[i]? = some (vec l i) := vec_lt hi
  have e2 : (l.map F.enc)[i]? = some (F.enc (vec l i)) := by rw [List.getElem?_map, e]; rfl
  have e3 : ((l.map F.enc).map cst).getD i 0 = cst (F.enc (vec l i)) := by
    rw [List.getD_eq_getElem?_getD, List.getElem?_map, e2]
    rfl
  rw [e3]
  exact cst_sm (h _ (List.mem_of_getElem? e2))
theorem TabC.htj {f : Int} (hf : IsF f) {F : Fd f} {L : List (List F.F)} {r w c : Nat} (h : TabC (L.map fun l => l.map F.enc) r w c) : letI := F.fld; HtJ F (c + 1) (fun q : Nat × Nat => vec (L.getD q.1 []) q.2) := by
  letI := F.fld
  letI := F.dec
  have ef : (L.map fun l => l.map F.enc).flatten = L.flatten.map F.enc := (List.map_flatten ..).symm
  have hF : Ht F (c + 1) (vec L.flatten) := by
    refine (ht_pairs hf fun q hq => ?_).mono ?_
    · rw [← ef] at hq
      obtain ⟨qs, h1, h2⟩ := List.mem_flatten.mp hq
      exact h.sm qs h1 q h2
    · have := h.cost
      unfold costT at this
      rw [ef] at this
      omega
  refine (Ht.j hF).re fun q => ?_
  by_cases c1 : q.1 < L.length
  · have e1 := go_getD (l := L) (d := []) c1
    generalize L.getD q.1 [] = m at e1
    by_cases c2 : q.2 < m.length
    · have e2 : m[q.2]? = some (vec m q.2) := vec_lt c2
      have hm : vec m q.2 ∈ L.flatten := List.mem_flatten.mpr ⟨m, List.mem_of_getElem? e1, List.mem_of_getElem? e2⟩
      obtain ⟨i, hi⟩ := List.getElem?_of_mem hm
      refine .inr ⟨i, ?_⟩
      unfold vec at hi ⊢
      rw [List.getD_eq_getElem?_getD (l := L.flatten), hi]
      rfl
    · exact .inl (vec_ge (by omega))
  · refine .inl ?_
    rw [show L.getD q.1 [] = [] from by rw [List.getD_eq_getElem?_getD, List.getElem?_eq_none (by omega)]; rfl]
    exact vec_ge (Nat.zero_le _)
section
variable {f : Int} {F : Fd f} {n : Nat} {T : List (List F.F)}
theorem row_htj {T : List (List F.F)} {n : Nat} (h : letI := F.fld; HtJ F n (fun q : Nat × Nat => vec (T.getD q.1 []) q.2)) {l : List F.F} (hl : l ∈ T) : letI := F.fld; Ht F n (vec l) := by
  letI := F.fld
  obtain ⟨k, hk⟩ := List.getElem?_of_mem hl
  refine h.re fun p => .inr ⟨(k, p), ?_⟩
  show vec l p = vec (T.getD k []) p
  rw [List.getD_eq_getElem?_getD, hk]
  rfl
theorem act_ht {m a g : Nat} {c : List F.F} (hT : letI := F.fld; Tbl n m T) (m16 : m ≤ 16) (h : letI := F.fld; HtJ F a (fun q : Nat × Nat => vec (T.getD q.1 []) q.2)) (hc : letI := F.fld; Ht F g (vec c)) : letI := F.fld; letI := F.dec; Ht F (a + g + 4) (vec (actL T c)) := by
  letI := F.fld
  letI := F.dec
  refine ((h.prod (Ht.j hc)).sum (s := 4) (k := m) (by omega) (fun (i : Nat) (j : Nat) => ((i, j), j))).re fun i => ?_
  by_cases d : i < n
  · refine .inr ⟨i, ?_⟩
    rw [act_vec hT d]
  · exact .inl (vec_ge (by rw [actL_len, hT.len]; omega))
theorem col_ht {a : Nat} {T : List (List F.F)} (h : letI := F.fld; HtJ F a (fun q : Nat × Nat => vec (T.getD q.1 []) q.2)) (p : Nat) : letI := F.fld; letI := F.dec; Ht F a (vec (colT p T)) := by
  letI := F.fld
  letI := F.dec
  refine h.re fun i => ?_
  by_cases c : i < T.length
  · exact .inr ⟨(i, p), colT_vec c⟩
  · exact .inl (vec_ge (by rw [colT_len]; omega))
theorem join_htj {m l a g : Nat} {A B : List (List F.F)} (hA : letI := F.fld; Tbl n m A) (hB : letI := F.fld; Tbl m l B) (m16 : m ≤ 16) (h : letI := F.fld; HtJ F a (fun q : Nat × Nat => vec (A.getD q.1 []) q.2)) (hb : letI := F.fld; HtJ F g (fun q : Nat × Nat => vec (B.getD q.1 []) q.2)) :
    letI := F.fld; letI := F.dec; HtJ F (a + g + 4) (fun q : Nat × Nat => vec ((joinL A B l).getD q.1 []) q.2) := by
  letI := F.fld
  letI := F.dec
  refine ((h.prod hb).sum (s := 4) (k := m) (by omega) (fun (q : Nat × Nat) (j : Nat) => ((q.1, j), (j, q.2)))).re fun q => ?_
  have hJ := join_tbl (w := l) (B := B) hA
  by_cases c : q.1 < n
  · by_cases d : q.2 < l
    · refine .inr ⟨q, ?_⟩
      have e1 : vec ((joinL A B l).getD q.1 []) q.2 = vec (colT q.2 (joinL A B l)) q.1 := (colT_vec (by rw [hJ.len]; exact c)).symm
      rw [e1, join_col hA hB.len d, act_vec hA c]
      exact sumV_congr fun j hj => by rw [colT_vec (by rw [hB.len]; exact hj)]
    · exact .inl (vec_ge (by rw [hJ.row c]; omega))
  · refine .inl ?_
    rw [show (joinL A B l).getD q.1 [] = [] from by rw [List.getD_eq_getElem?_getD, List.getElem?_eq_none (by rw [hJ.len]; omega)]; rfl]
    exact vec_ge (Nat.zero_le _)
theorem join_act {m l : Nat} {A B : List (List F.F)} {c : List F.F} (hA : letI := F.fld; Tbl n m A) (hB : letI := F.fld; Tbl m l B) : letI := F.fld; letI := F.dec; actL (joinL A B l) c = actL A (actL B c) := by
  letI := F.fld
  letI := F.dec
  rw [act_cols hA hB, tbl_is (join_tbl (w := l) (B := B) hA) fun p hp => join_col hA hB.len hp]
end

open Lin
/-! ## stalkweb.tables, with refusals -/
def rlenQ (QS : List (List Pr)) : Nat := (QS.headD []).length
def lensQ (QS : List (List Pr)) (n : Nat) : Bool := QS.all fun qs => decide (qs.length = n)
theorem lensQ_iff {QS : List (List Pr)} {n : Nat} : lensQ QS n = true ↔ ∀ qs ∈ QS, qs.length = n := by
  unfold lensQ
  rw [List.all_eq_true]
  exact ⟨fun h qs hq => of_decide_eq_true (h qs hq), fun h qs hq => decide_eq_true (h qs hq)⟩
theorem NumsV.lenQ {K : PySem.W.Frag} {H : Hp} {vs : List V} {qs : List Pr} (h : NumsV K H vs qs) : vs.length = qs.length := Paired.length h
theorem RowsP.len {K : PySem.W.Frag} {H : Hp} {xs : List V} {QS : List (List Pr)} (h : RowsP K H xs QS) : xs.length = QS.length := Paired.length h
theorem RowP.tk {K : PySem.W.Frag} {H H' : Hp} {v : V} {qs : List Pr} (h : RowP K H v qs) (t : Tk K H H') : RowP K H' v qs := by
  obtain ⟨a, ys, h1, h2, h3⟩ := h
  exact ⟨a, ys, h1, t _ _ h2, h3.tk t⟩
theorem RowsP.tk {K : PySem.W.Frag} {H H' : Hp} (t : Tk K H H') : ∀ {xs : List V} {QS : List (List Pr)}, RowsP K H xs QS → RowsP K H' xs QS
  | _, _, .nil => .nil
  | _, _, .cons h r => .cons (h.tk t) (RowsP.tk t r)
theorem RowsP.rts {K : PySem.W.Frag} {H : Hp} {f : Int} {F : Fd f} : ∀ {xs : List V} {C : List (List F.F)}, RowsP K H xs (C.map fun l => l.map F.enc) → RTs K H F xs C
  | _, [], h => by
    cases h
    exact .nil
  | _, c :: C, h => by
    cases h with
    | cons g t => exact .cons g (RowsP.rts t)
theorem RowsP.app {K : PySem.W.Frag} {H : Hp} : ∀ {xs ys : List V} {A B : List (List Pr)}, RowsP K H xs A → RowsP K H ys B → RowsP K H (xs ++ ys) (A ++ B)
  | _, _, _, _, .nil, h => h
  | _, _, _, _, .cons g t, h => .cons g (RowsP.app t h)
theorem RowsP.take {K : PySem.W.Frag} {H : Hp} : ∀ {xs : List V} {A : List (List Pr)} (i : Nat), RowsP K H xs A → RowsP K H (xs.take i) (A.take i)
  | _, _, 0, _ => .nil
  | _, _, _ + 1, .nil => .nil
  | _, _, i + 1, .cons g t => .cons g (RowsP.take i t)
theorem RowsP.drop {K : PySem.W.Frag} {H : Hp} : ∀ {xs : List V} {A : List (List Pr)} (i : Nat), RowsP K H xs A → RowsP K H (xs.drop i) (A.drop i)
  | _, _, 0, h => h
  | _, _, _ + 1, .nil => .nil
  | _, _, i + 1, .cons g t => RowsP.drop i t
def spRowLenQ (K : PySem.W.Frag) : Sp := fun vs H Q _ => ∃ (p : Addr) (xs : List V) (QS : List (List Pr)), vs = [.ref p] ∧ SqT K H p xs ∧ RowsP K H xs QS ∧ Q (.int (rlenQ QS : Nat)) H
theorem len_row_length {K vs H Q E} (h : spRowLenQ K vs H Q E) : vs.length = (["table"] : List Str).length := by
  obtain ⟨p, xs, QS, rfl, _⟩ := h
  rfl
theorem d_row_length {P : Program} {w : World} {K : PySem.W.Frag} {mg : Str → Option Value} {base : Heap} (R : Raw K mg "row_length" s_row_length) (B : Bn mg)  : Def P w K mg base "row_length" 1 ["table"] (spRowLenQ K) := by
  obtain ⟨f, fd, F, m⟩ := R
  refine ⟨f, fd, F.ok sc_row_length (fun vs H Q E h => ?_) (fun cdv A outer s H vs Q E hr h => ?_), m, F.kp, F.binds (ps := ["table"]) fun _ _ _ _ _ _ us hl => match us, hl with | [_], _ => rfl⟩
  · exact len_row_length h

  · obtain ⟨p, xs, QS, rfl, hx, hQ, q⟩ := h
    refine ⟨_, (pss_one (ps_ret (pe_ifExp (pt_truth (pv 0) (by intro _; rfl)) (pe_callB call_len_seq (by rfl) B.len PySem.boot_len (pa_cons (pe_ix ix_tup (pv 0) pe_int (fun _ _ => rfl)) pa_nil)) pe_int))), ?_⟩
    cases hQ with
    | nil => exact ⟨_, rfl, _, .inr (.inl ⟨_, hx, rfl⟩), iteF q⟩
    | cons g t =>
      obtain ⟨r, ys, rfl, hy, hn⟩ := g
      have ly := hn.lenQ
      refine ⟨_, rfl, _, .inr (.inl ⟨_, hx, rfl⟩), iteT ⟨_, rfl, p, _, _, _, rfl, rfl, hx, atI_nat (j := 0) rfl, r, ys, rfl, .inr hy, ?_⟩⟩
      rw [ly]
      exact q
def spChkLX (K : PySem.W.Frag) (CW : Addr × Addr) : Sp := fun vs H Q E => ∃ (p : Addr) (xs : List V) (QS : List (List Pr)) (n : Nat), vs = [.ref p, .int (n : Nat)] ∧ SqT K H p xs ∧ RowsP K H xs QS ∧ xs.length ≤ 900 ∧ (lensQ QS n = true → ∀ H', Same H H' → Q .non H') ∧ (lensQ QS n = false → Raised K CW "badshape" H E)
theorem len_check_lengths {K CW vs H Q E} (h : spChkLX K CW vs H Q E) : vs.length = (["table", "length"] : List Str).length := by
  obtain ⟨p, xs, QS, n, rfl, _⟩ := h
  rfl
theorem d_check_lengths {P : Program} {w : World} {K : PySem.W.Frag} {mg : Str → Option Value} {base : Heap} {CW : Addr × Addr} {fI fJ : Addr} (R : Raw K mg "check_lengths" s_check_lengths) (B : Bn mg) {C_BadShape : Addr} (E_BadShape : ErrC K mg CW "BadShape" C_BadShape fI "badshape") {fdI : FuncData} (G_init : IniAt P w K mg base fI fdI) : DefX P w K mg base "check_lengths" 3 ["table", "length"] (spChkLX K CW) := by
  obtain ⟨f, fd, F, m⟩ := R
  refine ⟨f, fd, F.okX sc_check_lengths (fun vs H Q E h => ?_) (fun cdv A outer s H vs Q E hr h => ?_), m, F.kp, F.binds (ps := ["table", "length"]) fun _ _ _ _ _ _ us hl => match us, hl with | [_, _], _ => rfl⟩
  · exact len_check_lengths h

  · obtain ⟨p, xs, QS, n, rfl, hx, hQ, l9, q, qx⟩ := h
    refine ⟨_, (pss_one (ps_if (pt_val (pe_callB (cr_any rfl) (by rfl) B.any (by decide +kernel) (pa_cons (pe_lc (own := [("row", 2)]) (g := gName 2) (tt := tYes) rfl sc_check_lengths.nd (pi_tup (pv 0)) (blkOk_by (N := ["table", "length", "row"]) (sc := defScope s_check_lengths) (by decide +kernel)) (fun _ _ _ _ _ => pg_name (i := 2) sc_check_lengths.nd rfl (Or.inl rfl)) (fun _ _ _ _ _ => pts_nil) (fun _ _ _ _ _ => (pe_cmpR op_ne (pe_callB (show CallR _ _ (rLen K) from cr_len) (by rfl) B.len PySem.boot_len (pa_cons (pv 2) pa_nil)) (pv 1) (nomark _)))) pa_nil))) (pss_one (ps_raise rfl (takes_of rfl rfl rfl rfl) (pmk_oex E_BadShape.oex E_BadShape.iC G_init.ty G_init.ok (hr.mono (by omega)) G_init.bd .nil pass0 (by rfl) E_BadShape.mgC (pa_cons pe_str pa_nil)))) pss_nil)), ?_⟩
    have lq := hQ.len
    refine ⟨_, rfl, p, rfl, ⟨_, hx⟩, fun D hD => lc_tup (K := K) (a := p) (xs := xs) (fun i H' => Same H H' ∧ H' D = some (.lst (((QS.take i).map fun qs => !decide (qs.length = n)).map V.bl))) ⟨same_new hD, upd_same⟩ (fun i H' _ ⟨s, _⟩ => Same.seqT s hx) ?_ ?_⟩
    · rintro i x H2 hi ⟨s, hD'⟩
      obtain ⟨qs, e1, h1⟩ := hQ.pick hi
      obtain ⟨r, ys, rfl, hy, hn⟩ := h1.same s
      have ly := hn.lenQ
      refine ⟨rfl, tYes_of (iteT ⟨_, rfl, r, ys, rfl, .inr hy, _, rfl, rfl, _, hD', ?_, same_seqT_upd s hD hD', ?_⟩)⟩
      · rw [List.length_map, List.length_map, List.length_take]
        exact small1000 (by omega)
      · rw [upd_same, List.take_add_one, e1, List.map_append, List.map_append, ly, decI, show decide ((qs.length : Int) = (n : Int)) = decide (qs.length = n) from decide_eq_decide.mpr (by omega)]
        rfl
    rintro H2 ⟨s, hD'⟩
    rw [lq, List.take_length] at hD'
    refine ⟨D, QS.map fun qs => !decide (qs.length = n), rfl, SqL.of hD', ?_⟩
    have e : (QS.map fun qs => !decide (qs.length = n)).any id = !lensQ QS n := by
      unfold lensQ
      rw [List.any_map, List.all_eq_not_any_not, Bool.not_not]
      rfl
    rw [e]
    cases hg : lensQ QS n with
    | true => exact ⟨_, rfl, iteF (q hg _ s)⟩
    | false => exact ⟨_, rfl, iteT ⟨by show 1 ≤ 1000; decide, raise_read E_BadShape ((qx hg).same s)⟩⟩
def spLeadX (K : PySem.W.Frag) (CW : Addr × Addr) : Sp := fun vs H Q E => ∃ (f : Int) (p c : Addr) (xs ys : List V) (QS : List (List Pr)) (cq : List Pr), vs = [.int f, .ref p, .ref c] ∧ SqT K H p xs ∧ RowsP K H xs QS ∧ SqT K H c ys ∧ NumsV K H ys cq ∧ xs.length ≤ 900 ∧ ys.length ≤ 900 ∧ (∀ qs ∈ QS, qs.length ≤ 900) ∧
  (¬ IsF f → Raised K CW "badfield" H E) ∧ (IsF f → lensQ QS cq.length = false → Raised K CW "badshape" H E) ∧ (IsF f → lensQ QS cq.length = true → (QS.all (goodAll f) && goodAll f cq) = false → Raised K CW "badnumber" H E) ∧
  (IsF f → lensQ QS cq.length = true → (QS.all (goodAll f) && goodAll f cq) = true → ∃ (F : Fd f) (T : List (List F.F)) (l : List F.F), RTs K H F xs T ∧ NumsV K H ys (l.map F.enc) ∧ (∀ t ∈ T, t.length = l.length) ∧ (∀ t ∈ T, DotOk F t l) ∧ ∀ H' v, Same H H' → (letI := F.fld; letI := F.dec; RowT K H' F v (T.map fun t => dotN t l t.length)) → Q v H')
theorem len_lead {K CW vs H Q E} (h : spLeadX K CW vs H Q E) : vs.length = (["field", "table", "column"] : List Str).length := by
  obtain ⟨f, p, c, xs, ys, QS, cq, rfl, _⟩ := h
  rfl
theorem d_lead {P : Program} {w : World} {K : PySem.W.Frag} {mg : Str → Option Value} {base : Heap} {CW : Addr × Addr} {fI fJ : Addr} (R : Raw K mg "lead" s_lead) (B : Bn mg) (D_check_field : DefX P w K mg base "check_field" 3 ["field"] (spChkFX K CW)) (D_check_lengths : DefX P w K mg base "check_lengths" 3 ["table", "length"] (spChkLX K CW)) (D_check_row_numbers : DefX P w K mg base "check_row_numbers" 4 ["field", "rows"] (spChkRsX K CW)) (D_check_numbers : DefX P w K mg base "check_numbers" 3 ["field", "numbers"] (spChkNX K CW)) (D_led : Def P w K mg base "led" 5 ["field", "table", "column"] (spLedP K)) : DefX P w K mg base "lead" 6 ["field", "table", "column"] (spLeadX K CW) := by
  obtain ⟨f, fd, F, m⟩ := R
  obtain ⟨f_check_field, fd_check_field, G_check_field, m_check_field, k_check_field, b_check_field⟩ := D_check_field
  obtain ⟨f_check_lengths, fd_check_lengths, G_check_lengths, m_check_lengths, k_check_lengths, b_check_lengths⟩ := D_check_lengths
  obtain ⟨f_check_row_numbers, fd_check_row_numbers, G_check_row_numbers, m_check_row_numbers, k_check_row_numbers, b_check_row_numbers⟩ := D_check_row_numbers
  obtain ⟨f_check_numbers, fd_check_numbers, G_check_numbers, m_check_numbers, k_check_numbers, b_check_numbers⟩ := D_check_numbers
  obtain ⟨f_led, fd_led, G_led, m_led, k_led, b_led⟩ := D_led
  refine ⟨f, fd, F.okX sc_lead (fun vs H Q E h => ?_) (fun cdv A outer s H vs Q E hr h => ?_), m, F.kp, F.binds (ps := ["field", "table", "column"]) fun _ _ _ _ _ _ us hl => match us, hl with | [_, _, _], _ => rfl⟩
  · exact len_lead h

  · obtain ⟨f, p, c, xs, ys, QS, cq, rfl, hx, hQ, hy, hc, lx, ly, lw, qf, qs, qn, q⟩ := h
    refine ⟨_, (pss_cons (ps_expr (pe_call G_check_field (hr.mono (by omega)) (by rfl) m_check_field k_check_field b_check_field .nil (passes_call (takes_of rfl rfl rfl rfl) (fun _ _ _ _ h => h)) (pa_cons (pv 0) pa_nil))) (pss_cons (ps_expr (pe_call G_check_lengths (hr.mono (by omega)) (by rfl) m_check_lengths k_check_lengths b_check_lengths .nil (passes_call (takes_of rfl rfl rfl rfl) (fun _ _ _ _ h => h)) (pa_cons (pv 1) (pa_cons (pe_callB call_len_seq (by rfl) B.len PySem.boot_len (pa_cons (pv 2) pa_nil)) pa_nil)))) (pss_cons (ps_expr (pe_call G_check_row_numbers (hr.mono (by omega)) (by rfl) m_check_row_numbers k_check_row_numbers b_check_row_numbers .nil (passes_call (takes_of rfl rfl rfl rfl) (fun _ _ _ _ h => h)) (pa_cons (pv 0) (pa_cons (pv 1) pa_nil)))) (pss_cons (ps_expr (pe_call G_check_numbers (hr.mono (by omega)) (by rfl) m_check_numbers k_check_numbers b_check_numbers .nil (passes_call (takes_of rfl rfl rfl rfl) (fun _ _ _ _ h => h)) (pa_cons (pv 0) (pa_cons (pv 2) pa_nil)))) (pss_one (ps_ret (pe_call G_led (hr.mono (by omega)) (by rfl) m_led k_led b_led .nil pass0 (pa_cons (pv 0) (pa_cons (pv 1) (pa_cons (pv 2) pa_nil)))))))))), ?_⟩
    have e1 := hc.lenQ
    refine ⟨_, rfl, f, rfl, fun hf => ?_, qf⟩
    refine ⟨_, rfl, _, rfl, c, ys, rfl, .inr hy, p, xs, QS, cq.length, by rw [e1]; rfl, hx, hQ, lx, fun hs H1 s1 => ?_, fun hs => qs hf hs⟩
    refine ⟨_, rfl, _, rfl, f, p, xs, QS, rfl, Same.seqT s1 hx, hQ.same s1, fun qs hq => by have := lw qs hq; omega, fun g1 H2 s2 => ?_, fun g1 => (qn hf hs (by rw [g1, Bool.false_and])).same s1⟩
    have s12 := s1.trans s2
    refine ⟨_, rfl, _, rfl, f, true, c, ys, cq, rfl, Same.seqT s12 hy, NumsV.same s12 hc, by omega, fun g2 H3 s3 => ?_, fun g2 => (qn hf hs (by rw [g2, Bool.and_false])).same s12⟩
    have s13 := s12.trans s3
    obtain ⟨F, T, l, hT, hl, hw, hd, k⟩ := q hf hs (by rw [g1, g2]; rfl)
    have lT := hT.len
    exact ⟨_, rfl, _, rfl, _, rfl, f, .ref p, .ref c, F, T, l, rfl, hf, ⟨true, p, xs, rfl, Same.seqT s13 hx, hT.same s13⟩, ⟨true, c, ys, rfl, Same.seqT s13 hy, NumsV.same s13 hl⟩, by omega, hw, hd, fun H' v s' hv => k H' v (s13.trans s') hv⟩
def shapeB (QS PS : List (List Pr)) : Bool := lensQ QS PS.length && lensQ PS (rlenQ PS)
def spBehindX (K : PySem.W.Frag) (CW : Addr × Addr) : Sp := fun vs H Q E => ∃ (f : Int) (p r : Addr) (xs ys : List V) (QS PS : List (List Pr)), vs = [.int f, .ref p, .ref r] ∧ SqT K H p xs ∧ RowsP K H xs QS ∧ SqT K H r ys ∧ RowsP K H ys PS ∧ xs.length ≤ 900 ∧ ys.length ≤ 900 ∧ (∀ qs ∈ QS, qs.length ≤ 900) ∧ (∀ qs ∈ PS, qs.length ≤ 900) ∧
  (¬ IsF f → Raised K CW "badfield" H E) ∧ (IsF f → shapeB QS PS = false → Raised K CW "badshape" H E) ∧ (IsF f → shapeB QS PS = true → (QS.all (goodAll f) && PS.all (goodAll f)) = false → Raised K CW "badnumber" H E) ∧
  (IsF f → shapeB QS PS = true → (QS.all (goodAll f) && PS.all (goodAll f)) = true → ∃ (F : Fd f) (T U : List (List F.F)), RTs K H F xs T ∧ RTs K H F ys U ∧ (letI := F.fld; letI := F.dec; Tbl T.length U.length T ∧ Tbl U.length (rlenQ PS) U) ∧ JoinOk F T U (rlenQ PS) ∧ ∀ H' v, Same H H' → (letI := F.fld; letI := F.dec; TabT K H' F v (joinL T U (rlenQ PS))) → Q v H')
theorem len_behind {K CW vs H Q E} (h : spBehindX K CW vs H Q E) : vs.length = (["field", "table", "other"] : List Str).length := by
  obtain ⟨f, p, c, xs, ys, QS, cq, rfl, _⟩ := h
  rfl
theorem d_behind {P : Program} {w : World} {K : PySem.W.Frag} {mg : Str → Option Value} {base : Heap} {CW : Addr × Addr} {fI fJ : Addr} (R : Raw K mg "behind" s_behind) (B : Bn mg) (D_check_field : DefX P w K mg base "check_field" 3 ["field"] (spChkFX K CW)) (D_check_lengths : DefX P w K mg base "check_lengths" 3 ["table", "length"] (spChkLX K CW)) (D_check_row_numbers : DefX P w K mg base "check_row_numbers" 4 ["field", "rows"] (spChkRsX K CW)) (D_joined : Def P w K mg base "joined" 6 ["field", "table", "other", "length"] (spJoined K)) (D_row_length : Def P w K mg base "row_length" 1 ["table"] (spRowLenQ K)) : DefX P w K mg base "behind" 7 ["field", "table", "other"] (spBehindX K CW) := by
  obtain ⟨f, fd, F, m⟩ := R
  obtain ⟨f_check_field, fd_check_field, G_check_field, m_check_field, k_check_field, b_check_field⟩ := D_check_field
  obtain ⟨f_check_lengths, fd_check_lengths, G_check_lengths, m_check_lengths, k_check_lengths, b_check_lengths⟩ := D_check_lengths
  obtain ⟨f_check_row_numbers, fd_check_row_numbers, G_check_row_numbers, m_check_row_numbers, k_check_row_numbers, b_check_row_numbers⟩ := D_check_row_numbers
  obtain ⟨f_joined, fd_joined, G_joined, m_joined, k_joined, b_joined⟩ := D_joined
  obtain ⟨f_row_length, fd_row_length, G_row_length, m_row_length, k_row_length, b_row_length⟩ := D_row_length
  refine ⟨f, fd, F.okX sc_behind (fun vs H Q E h => ?_) (fun cdv A outer s H vs Q E hr h => ?_), m, F.kp, F.binds (ps := ["field", "table", "other"]) fun _ _ _ _ _ _ us hl => match us, hl with | [_, _, _], _ => rfl⟩
  · exact len_behind h

  · obtain ⟨f, p, r, xs, ys, QS, PS, rfl, hx, hQ, hy, hP, lx, ly, lw, lv, qf, qs, qn, q⟩ := h
    refine ⟨_, (pss_cons (ps_expr (pe_call G_check_field (hr.mono (by omega)) (by rfl) m_check_field k_check_field b_check_field .nil (passes_call (takes_of rfl rfl rfl rfl) (fun _ _ _ _ h => h)) (pa_cons (pv 0) pa_nil))) (pss_cons (ps_expr (pe_call G_check_lengths (hr.mono (by omega)) (by rfl) m_check_lengths k_check_lengths b_check_lengths .nil (passes_call (takes_of rfl rfl rfl rfl) (fun _ _ _ _ h => h)) (pa_cons (pv 1) (pa_cons (pe_callB call_len_seq (by rfl) B.len PySem.boot_len (pa_cons (pv 2) pa_nil)) pa_nil)))) (pss_cons (ps_expr (pe_call G_check_lengths (hr.mono (by omega)) (by rfl) m_check_lengths k_check_lengths b_check_lengths .nil (passes_call (takes_of rfl rfl rfl rfl) (fun _ _ _ _ h => h)) (pa_cons (pv 2) (pa_cons (pe_call G_row_length (hr.mono (by omega)) (by rfl) m_row_length k_row_length b_row_length .nil pass0 (pa_cons (pv 2) pa_nil)) pa_nil)))) (pss_cons (ps_expr (pe_call G_check_row_numbers (hr.mono (by omega)) (by rfl) m_check_row_numbers k_check_row_numbers b_check_row_numbers .nil (passes_call (takes_of rfl rfl rfl rfl) (fun _ _ _ _ h => h)) (pa_cons (pv 0) (pa_cons (pv 1) pa_nil)))) (pss_cons (ps_expr (pe_call G_check_row_numbers (hr.mono (by omega)) (by rfl) m_check_row_numbers k_check_row_numbers b_check_row_numbers .nil (passes_call (takes_of rfl rfl rfl rfl) (fun _ _ _ _ h => h)) (pa_cons (pv 0) (pa_cons (pv 2) pa_nil)))) (pss_one (ps_ret (pe_call G_joined (hr.mono (by omega)) (by rfl) m_joined k_joined b_joined .nil pass0 (pa_cons (pv 0) (pa_cons (pv 1) (pa_cons (pv 2) (pa_cons (pe_call G_row_length (hr.mono (by omega)) (by rfl) m_row_length k_row_length b_row_length .nil pass0 (pa_cons (pv 2) pa_nil)) pa_nil)))))))))))), ?_⟩
    have e1 := hP.len
    have rl : rlenQ PS ≤ 900 := by
      unfold rlenQ
      cases PS with
      | nil => exact Nat.zero_le _
      | cons a b => exact lv a (List.mem_cons_self ..)
    refine ⟨_, rfl, f, rfl, fun hf => ?_, qf⟩
    refine ⟨_, rfl, _, rfl, r, ys, rfl, .inr hy, p, xs, QS, PS.length, by rw [e1]; rfl, hx, hQ, lx, fun g1 H1 s1 => ?_, fun g1 => qs hf (by unfold shapeB; rw [g1, Bool.false_and])⟩
    refine ⟨_, rfl, _, rfl, r, ys, PS, rfl, Same.seqT s1 hy, hP.same s1, r, ys, PS, rlenQ PS, rfl, Same.seqT s1 hy, hP.same s1, ly, fun g2 H2 s2 => ?_, fun g2 => (qs hf (by unfold shapeB; rw [g2, Bool.and_false])).same s1⟩
    have s12 := s1.trans s2
    have hs : shapeB QS PS = true := by
      unfold shapeB
      rw [g1, g2]
      rfl
    refine ⟨_, rfl, _, rfl, f, p, xs, QS, rfl, Same.seqT s12 hx, hQ.same s12, fun qs hq => by have := lw qs hq; omega, fun g3 H3 s3 => ?_, fun g3 => (qn hf hs (by rw [g3, Bool.false_and])).same s12⟩
    have s13 := s12.trans s3
    refine ⟨_, rfl, _, rfl, f, r, ys, PS, rfl, Same.seqT s13 hy, hP.same s13, fun qs hq => by have := lv qs hq; omega, fun g4 H4 s4 => ?_, fun g4 => (qn hf hs (by rw [g4, Bool.and_false])).same s13⟩
    have s14 := s13.trans s4
    obtain ⟨F, T, U, hT, hU, ⟨tT, tU⟩, hJ, k⟩ := q hf hs (by rw [g3, g4]; rfl)
    have lT := hT.len
    have lU := hU.len
    refine ⟨_, rfl, _, rfl, _, rfl, _, rfl, r, ys, PS, rfl, Same.seqT s14 hy, hP.same s14, ?_⟩
    exact ⟨f, F, .ref p, .ref r, T, U, rlenQ PS, T.length, U.length, rfl, hf, ⟨p, xs, rfl, Same.seqT s14 hx, hT.same s14⟩, ⟨true, r, ys, rfl, Same.seqT s14 hy, hU.same s14⟩, tT, tU, by omega, by omega, rl, hJ, fun H' v s' hv => k H' v (s14.trans s') hv⟩
def spStillX (K : PySem.W.Frag) (CW : Addr × Addr) : Sp := fun vs H Q E => ∃ (f : Int) (n : Nat), vs = [.int f, .int (n : Nat)] ∧ n ≤ 900 ∧ (¬ IsF f → Raised K CW "badfield" H E) ∧ (IsF f → ∃ F : Fd f, ∀ H' v, Same H H' → (letI := F.fld; letI := F.dec; TabT K H' F v (tblOf n n fun p => unL n p)) → Q v H')
theorem len_still {K CW vs H Q E} (h : spStillX K CW vs H Q E) : vs.length = (["field", "room"] : List Str).length := by
  obtain ⟨f, n, rfl, _⟩ := h
  rfl
theorem d_still {P : Program} {w : World} {K : PySem.W.Frag} {mg : Str → Option Value} {base : Heap} {CW : Addr × Addr} {fI fJ : Addr} (R : Raw K mg "still" s_still) (B : Bn mg) (D_check_field : DefX P w K mg base "check_field" 3 ["field"] (spChkFX K CW)) (D_still_table : Def P w K mg base "still_table" 1 ["room"] (spStillT K)) : DefX P w K mg base "still" 4 ["field", "room"] (spStillX K CW) := by
  obtain ⟨f, fd, F, m⟩ := R
  obtain ⟨f_check_field, fd_check_field, G_check_field, m_check_field, k_check_field, b_check_field⟩ := D_check_field
  obtain ⟨f_still_table, fd_still_table, G_still_table, m_still_table, k_still_table, b_still_table⟩ := D_still_table
  refine ⟨f, fd, F.okX sc_still (fun vs H Q E h => ?_) (fun cdv A outer s H vs Q E hr h => ?_), m, F.kp, F.binds (ps := ["field", "room"]) fun _ _ _ _ _ _ us hl => match us, hl with | [_, _], _ => rfl⟩
  · exact len_still h

  · obtain ⟨f, n, rfl, n9, qf, q⟩ := h
    refine ⟨_, (pss_cons (ps_expr (pe_call G_check_field (hr.mono (by omega)) (by rfl) m_check_field k_check_field b_check_field .nil (passes_call (takes_of rfl rfl rfl rfl) (fun _ _ _ _ h => h)) (pa_cons (pv 0) pa_nil))) (pss_one (ps_ret (pe_call G_still_table (hr.mono (by omega)) (by rfl) m_still_table k_still_table b_still_table .nil pass0 (pa_cons (pv 1) pa_nil))))), ?_⟩
    refine ⟨_, rfl, f, rfl, fun hf => ?_, qf⟩
    obtain ⟨F, q⟩ := q hf
    exact ⟨_, rfl, f, F, n, rfl, n9, q⟩

open Lin
/-! ## the law's own columns -/
def spNumGood (K : PySem.W.Frag) : Sp := fun vs H Q _ => ∃ (f : Int) (t : Bool) (r : Addr) (xs : List V) (QS : List (List Pr)), vs = [.int f, .ref r] ∧ 0 ≤ f ∧ ZM.Sq t K H r xs ∧ RowsP K H xs QS ∧ QS.length ≤ 900 ∧ (∀ qs ∈ QS, qs.length ≤ 900) ∧ ∀ H', Same H H' → Q (.bl (QS.all fun qs => qs.all (isNB f))) H'
theorem len__law_numbers_good {K vs H Q E} (h : spNumGood K vs H Q E) : vs.length = 2 := by
  obtain ⟨f, t, r, xs, QS, rfl, _⟩ := h
  rfl
theorem d__law_numbers_good {P : Program} {w : World} {K : PySem.W.Frag} {mg : Str → Option Value} {base : Heap} (R : Raw K mg "_law_numbers_good" s__law_numbers_good) (B : Bn mg) (D__law_is_number : Def P w K mg base "_law_is_number" 2 ["_law_field_here", "_law_number_here"] (spLIsN K)) : Def P w K mg base "_law_numbers_good" 3 ["_law_field_here", "_law_rows"] (spNumGood K) := by
  obtain ⟨f, fd, F, m⟩ := R
  obtain ⟨f__law_is_number, fd__law_is_number, G__law_is_number, m__law_is_number, k__law_is_number, b__law_is_number⟩ := D__law_is_number
  refine ⟨f, fd, F.ok sc__law_numbers_good (fun vs H Q E h => ?_) (fun cdv A outer s H vs Q E hr h => ?_), m, F.kp, F.binds (ps := ["_law_field_here", "_law_rows"]) fun _ _ _ _ _ _ us hl => match us, hl with | [_, _], _ => rfl⟩
  · exact len__law_numbers_good h

  · obtain ⟨f, t, r, xs, QS, rfl, f0, hR, hQ, l9, n9, q⟩ := h
    refine ⟨_, (pss_one (ps_ret (pe_callB (cr_all rfl) (by rfl) B.all (by decide +kernel) (pa_cons (pe_lc (own := [("_law_row_here", 2)]) (g := gName 2) (tt := tYes) rfl sc__law_numbers_good.nd (ZM.pi_sq (pv 1)) (blkOk_by (N := ["_law_field_here", "_law_rows", "_law_row_here", "_law_number_here"]) (sc := defScope s__law_numbers_good) (by decide +kernel)) (fun _ _ _ _ _ => pg_name (i := 2) sc__law_numbers_good.nd rfl (Or.inl rfl)) (fun _ _ _ _ _ => pts_nil) (fun _ _ _ _ _ => (pe_callB (show CallR _ (.builtin "all") (rAll K) from cr_all rfl) (by rfl) B.all (by decide +kernel) (pa_cons (pe_lc (own := [("_law_number_here", 3)]) (g := gName 3) (tt := tYes) rfl sc__law_numbers_good.nd (show PI _ _ _ (ZM.iSq K (tVar 2)) from ZM.pi_sq (pv 2)) (blkOk_by (N := ["_law_field_here", "_law_rows", "_law_row_here", "_law_number_here"]) (sc := { kind := PySem.ScopeKind.function, names := [ (PySem.Str.ofString ".0", PySem.NameKind.local), (PySem.Str.ofString "_law_row_here", PySem.NameKind.local), (PySem.Str.ofString "all", PySem.NameKind.globalImplicit), (PySem.Str.ofString "_law_field_here", PySem.NameKind.cell)], isGenerator := false, isCoroutine := false, more := [] : PySem.Scope }) (by decide +kernel)) (fun _ _ _ _ _ => pg_name (i := 3) sc__law_numbers_good.nd rfl (Or.inl rfl)) (fun _ _ _ _ _ => pts_nil) (fun _ _ _ _ _ => (pe_call G__law_is_number (hr.mono (by omega)) (by rfl) m__law_is_number k__law_is_number b__law_is_number .nil pass0 (pa_cons (pv 0) (pa_cons (pv 3) pa_nil))))) pa_nil)))) pa_nil)))), ?_⟩
    have lx : xs.length = QS.length := Paired.length hQ
    refine ⟨_, rfl, t, r, xs, rfl, hR, fun D hD => lc_it (ZM.walkS (t := t) (xs := xs)) (fun i H' => Same H H' ∧ H' D = some (.lst (((QS.take i).map fun qs => qs.all (isNB f)).map V.bl))) ⟨same_new hD, upd_same⟩ (fun i H' _ h => Sq.same h.1 hR) ?_ ?_⟩
    · rintro i x H2 H2' hi0 ⟨s2, hz⟩ ⟨rfl, hi⟩
      obtain ⟨qs, eq, p, us, rfl, hu, hn⟩ := (hQ.same s2).pick hi
      have lu := hn.len
      have n9' := n9 qs (List.mem_of_getElem? eq)
      refine ⟨rfl, tYes_of (iteT ⟨_, rfl, true, p, us, rfl, hu, fun D2 hD2 => lc_it (ZM.walkS (t := true) (xs := us)) (fun j H' => Same H2' H' ∧ H' D2 = some (.lst (((qs.take j).map (isNB f)).map V.bl))) ⟨same_new hD2, upd_same⟩ (fun j H' _ h => Same.seqT h.1 hu) ?_ ?_⟩)⟩
      · rintro j y H3 H3' hj0 ⟨s3, hz3⟩ ⟨rfl, hj⟩
        obtain ⟨q', hq1, hq2⟩ := NumsV.get (NumsV.same s3 hn) hj
        refine ⟨rfl, tYes_of (iteT ⟨_, rfl, _, rfl, f, y, q', rfl, f0, hq2, _, hz3, ?_, same_seqT_upd s3 hD2 hz3, ?_⟩)⟩
        · rw [List.length_map, List.length_map, List.length_take]
          exact small1000 (by omega)
        · rw [upd_same, List.take_add_one, hq1, List.map_append, List.map_append]
          rfl
      · rintro H3 ⟨s3, hz3⟩
        rw [lu, List.take_of_length_le (Nat.le_refl _)] at hz3
        have hz' := s3 _ _ hz
        refine ⟨D2, qs.map (isNB f), rfl, SqL.of hz3, _, hz', ?_, same_seqT_upd (s2.trans s3) hD hz', ?_⟩
        · rw [List.length_map, List.length_map, List.length_take]
          exact small1000 (by omega)
        · rw [upd_same, List.take_add_one, eq, List.map_append, List.map_append, List.all_map]
          rfl
    · rintro H2 ⟨s2, hz⟩
      rw [lx, List.take_of_length_le (Nat.le_refl _)] at hz
      refine ⟨D, QS.map fun qs => qs.all (isNB f), rfl, SqL.of hz, ?_⟩
      rw [List.all_map]
      exact q _ s2

open Lin
/-! ## displays of pairs -/
def GivesI (te : TE) (σ : L2.St) (i : Int) : Prop := ∀ (H : Hp) (R : VK), R (.int i) H → te σ H R
def GivesN (K : PySem.W.Frag) (te : TE) (σ : L2.St) (q : Pr) : Prop := ∀ (H : Hp) (R : VK), (∀ v H', Same H H' → NumV K H' v q → R v H') → te σ H R
def GivesNs (K : PySem.W.Frag) (ta : TA) (σ : L2.St) (qs : List Pr) : Prop := ∀ (H : Hp) (R : List V → Hp → Prop), (∀ vs H', Same H H' → NumsV K H' vs qs → R vs H') → ta σ H R
section
variable {K : PySem.W.Frag} {σ : L2.St} {ta tb : TE} {tr : TA} {a b : Int} {q : Pr} {qs : List Pr}
theorem gI_c : GivesI (tC (.int a)) σ a := fun _ _ r => r
theorem gI_v {i : Nat} (h : σ[i]? = some (some (.int a))) : GivesI (tVar i) σ a := fun _ _ r => ⟨_, h, r⟩
theorem gI_neg (h : GivesI ta σ a) : GivesI (tUn (rU fun i => .int (-i)) ta) σ (-a) := fun H R r => h H _ ⟨a, rfl, r⟩
theorem gI_pow (ha : GivesI ta σ a) (hb : GivesI tb σ b) (h : CPow a b) : GivesI (tOp (rI CPow fun i j => .int (i ^ j.toNat)) ta tb) σ (a ^ b.toNat) := fun H R r => ha H _ (hb H _ ⟨a, b, rfl, rfl, h, r⟩)
theorem gN_tup (ha : GivesI ta σ a) (hb : GivesI tb σ b) : GivesN K (tTup (tCons ta (tCons tb tNil))) σ (a, b) := fun H R r =>
  ha H _ (hb H _ ⟨by show 2 ≤ sizeLine; decide, fun p hp => r _ _ (same_new hp) (NumV.new a b)⟩)
theorem gNs_nil : GivesNs K tNil σ [] := fun H R r => r [] H (Same.refl H) .nil
theorem gNs_cons (h : GivesN K ta σ q) (t : GivesNs K tr σ qs) : GivesNs K (tCons ta tr) σ (q :: qs) := fun H R r =>
  h H _ fun v H1 s1 n1 => t H1 _ fun vs H2 s2 n2 => r (v :: vs) H2 (s1.trans s2) (.cons (n1.same s2) n2)
theorem lst_gives {H : Hp} {R : VK} (h : GivesNs K tr σ qs) (hl : qs.length ≤ sizeLine) (k : ∀ vs H1 p, Same H H1 → NumsV K H1 vs qs → H1 p = none → R (.ref p) (upd H1 p (.lst vs))) : tLst tr σ H R :=
  h H _ fun vs H1 s1 n1 => ⟨by rw [Paired.length n1]; exact hl, fun p hp => k vs H1 p s1 n1 hp⟩
theorem asg_lst {H : Hp} {g : TG} {D : Ends} (h : GivesNs K tr σ qs) (hl : qs.length ≤ sizeLine) (k : ∀ vs H1 p, Same H H1 → NumsV K H1 vs qs → H1 p = none → g (.ref p) σ (upd H1 p (.lst vs)) D.nx) : tAsg (tLst tr) g D σ H := lst_gives h hl k
end
theorem NumsV.mem {K : PySem.W.Frag} {H : Hp} {v : V} : ∀ {vs : List V} {qs : List Pr}, NumsV K H vs qs → v ∈ vs → ∃ q, q ∈ qs ∧ NumV K H v q
  | _, _, .nil, h => by cases h
  | _, _, .cons r t, h => by
    rcases List.mem_cons.mp h with rfl | h
    · exact ⟨_, List.mem_cons_self .., r⟩
    · obtain ⟨q, h1, h2⟩ := NumsV.mem t h
      exact ⟨q, List.mem_cons_of_mem _ h1, h2⟩
def spOdd (K : PySem.W.Frag) : Sp := fun vs H Q _ => ∃ (box l : Addr) (f : Int), vs = [.ref box, .int f] ∧ BoxAt H box l ∧ 0 ≤ f ∧ f ≤ 97 ∧ ∀ H' v q, Stp box l H H' → NumV K H' v q → Sm 110 q → Q v H'
theorem len__law_odd_pair {K vs H Q E} (h : spOdd K vs H Q E) : vs.length = (["_law_box", "_law_field_here"] : List Str).length := by
  obtain ⟨f, x, p, rfl, _⟩ := h
  rfl
theorem NumsV.newL {K : PySem.W.Frag} {H : Hp} {p : Addr} {o : HO} {vs : List V} {qs : List Pr} (h : NumsV K H vs qs) (hp : H p = none) : NumsV K (upd H p o) vs qs := NumsV.same (same_new hp) h
theorem d__law_odd_pair {P : Program} {w : World} {K : PySem.W.Frag} {mg : Str → Option Value} {base : Heap} (R : Raw K mg "_law_odd_pair" s__law_odd_pair) (D__law_any : Def P w K mg base "_law_any" 2 ["_law_box", "_law_some"] (spAny K)) : Def P w K mg base "_law_odd_pair" 3 ["_law_box", "_law_field_here"] (spOdd K) := by
  obtain ⟨f, fd, F, m⟩ := R
  obtain ⟨f__law_any, fd__law_any, G__law_any, m__law_any, k__law_any, b__law_any⟩ := D__law_any
  refine ⟨f, fd, F.ok sc__law_odd_pair (fun vs H Q E h => ?_) (fun cdv A outer s H vs Q E hr h => ?_), m, F.kp, F.binds (ps := ["_law_box", "_law_field_here"]) fun _ _ _ _ _ _ us hl => match us, hl with | [_, _], _ => rfl⟩
  · exact len__law_odd_pair h

  · obtain ⟨box, l, a, rfl, hb, h0, h97, q⟩ := h
    refine ⟨_, (pss_cons (ps_set (i := 2) sc__law_odd_pair.nd rfl (Or.inl rfl) (pe_lst (pa_cons (pe_tup (pa_cons (pv 1) (pa_cons pe_int pa_nil))) (pa_cons (pe_tup (pa_cons (pe_un un_neg pe_int) (pa_cons pe_int pa_nil))) (pa_cons (pe_tup (pa_cons pe_int (pa_cons pe_int pa_nil))) (pa_cons (pe_tup (pa_cons pe_int (pa_cons pe_int pa_nil))) (pa_cons (pe_tup (pa_cons pe_int (pa_cons pe_int pa_nil))) (pa_cons (pe_tup (pa_cons pe_int (pa_cons (pe_un un_neg pe_int) pa_nil))) (pa_cons (pe_tup (pa_cons pe_int (pa_cons pe_int pa_nil))) (pa_cons (pe_tup (pa_cons pe_int (pa_cons pe_int pa_nil))) (pa_cons (pe_tup (pa_cons pe_int (pa_cons pe_int pa_nil))) pa_nil))))))))))) (pss_cons (ps_set (i := 2) sc__law_odd_pair.nd rfl (Or.inl rfl) (pe_op op_cat (pv 2) (pe_lst (pa_cons (pe_tup (pa_cons (pe_op op_pow pe_int pe_int) (pa_cons pe_int pa_nil))) (pa_cons (pe_tup (pa_cons (pe_un un_neg (pe_op op_pow pe_int pe_int)) (pa_cons pe_int pa_nil))) pa_nil))))) (pss_one (ps_ret (pe_call G__law_any (hr.mono (by omega)) (by rfl) m__law_any k__law_any b__law_any .nil pass0 (pa_cons (pv 0) (pa_cons (pe_op op_cat (pv 2) (pe_lst (pa_cons (pe_tup (pa_cons pe_int (pa_cons (pe_op op_pow pe_int pe_int) pa_nil))) (pa_cons (pe_tup (pa_cons pe_int (pa_cons pe_int pa_nil))) (pa_cons (pe_tup (pa_cons pe_int (pa_cons pe_int pa_nil))) pa_nil))))) pa_nil))))))), ?_⟩
    refine asg_lst (K := K) (qs := [(a, 1), (-1, 1), (0, 2), (2, 4), (1, 0), (1, -1), (0, 0), (3, 1), (1, 3)]) ?h (by show 9 ≤ sizeLine; decide) ?k
    case h => exact gNs_cons (gN_tup (gI_v rfl) gI_c) (gNs_cons (gN_tup (gI_neg gI_c) gI_c) (gNs_cons (gN_tup gI_c gI_c) (gNs_cons (gN_tup gI_c gI_c) (gNs_cons (gN_tup gI_c gI_c) (gNs_cons (gN_tup gI_c (gI_neg gI_c)) (gNs_cons (gN_tup gI_c gI_c) (gNs_cons (gN_tup gI_c gI_c) (gNs_cons (gN_tup gI_c gI_c) gNs_nil))))))))
    case k =>
    intro vs1 H1 p1 s1 n1 hp1
    have l1 := n1.len
    have sp1 := s1.trans (same_new (o := .lst vs1) hp1)
    refine ⟨_, rfl, ?_⟩
    refine lst_gives (K := K) (qs := [((10 : Int) ^ (30 : Int).toNat, 1), (-(10 : Int) ^ (30 : Int).toNat, 1)]) ?h (by show 2 ≤ sizeLine; decide) ?k
    case h => exact gNs_cons (gN_tup (gI_pow gI_c gI_c (cpow (by decide) (by decide) (by decide))) gI_c) (gNs_cons (gN_tup (gI_neg (gI_pow gI_c gI_c (cpow (by decide) (by decide) (by decide)))) gI_c) gNs_nil)
    case k =>
    intro vs2 H2 p2 s2 n2 hp2
    have l2 := n2.len
    have sp2 := sp1.trans (s2.trans (same_new (o := .lst vs2) hp2))
    have e1 : (upd H2 p2 (.lst vs2)) p1 = some (.lst vs1) := same_new hp2 _ _ (s2 _ _ upd_same)
    refine ⟨p1, p2, vs1, vs2, rfl, rfl, e1, upd_same, by rw [l1, l2]; show 11 ≤ sizeLine; decide, fun p3 hp3 => ?_⟩
    have sp3 := sp2.trans (same_new (o := .lst (vs1 ++ vs2)) hp3)
    have n12 := NumsV.newL (o := .lst (vs1 ++ vs2)) (NumsV.app (NumsV.newL (o := .lst vs2) (NumsV.same s2 (NumsV.newL (o := .lst vs1) n1 hp1)) hp2) (NumsV.newL (o := .lst vs2) n2 hp2)) hp3
    refine ⟨_, rfl, _, rfl, ?_⟩
    refine lst_gives (K := K) (qs := [(7, (10 : Int) ^ (30 : Int).toNat), (1, 1), (0, 1)]) ?h (by show 3 ≤ sizeLine; decide) ?k
    case h => exact gNs_cons (gN_tup gI_c (gI_pow gI_c gI_c (cpow (by decide) (by decide) (by decide)))) (gNs_cons (gN_tup gI_c gI_c) (gNs_cons (gN_tup gI_c gI_c) gNs_nil))
    case k =>
    intro vs4 H4 p4 s4 n4 hp4
    have l4 := n4.len
    have sp4 := sp3.trans (s4.trans (same_new (o := .lst vs4) hp4))
    have e3 : (upd H4 p4 (.lst vs4)) p3 = some (.lst (vs1 ++ vs2)) := same_new hp4 _ _ (s4 _ _ upd_same)
    have n14 := NumsV.app (NumsV.newL (NumsV.same s4 n12) (o := .lst vs4) hp4) (NumsV.newL n4 (o := .lst vs4) hp4)
    have lA : (vs1 ++ vs2).length = 11 := by rw [List.length_append, l1, l2]; rfl
    have lB : (vs1 ++ vs2 ++ vs4).length = 14 := by rw [List.length_append, lA, l4]; rfl
    refine ⟨p3, p4, vs1 ++ vs2, vs4, rfl, rfl, e3, upd_same, by rw [lA, l4]; show 14 ≤ sizeLine; decide, fun p5 hp5 => ?_⟩
    have sp5 := sp4.trans (same_new (o := .lst (vs1 ++ vs2 ++ vs4)) hp5)
    have n15 := NumsV.newL n14 (o := .lst (vs1 ++ vs2 ++ vs4)) hp5
    refine ⟨box, l, p5, _, rfl, hb.same sp5, SqL.of upd_same, (hb.same sp4).ne hp5, ?_, by rw [lB]; decide, fun H6 x st hx => ?_⟩
    · intro e
      rw [e] at lB
      cases lB
    · obtain ⟨r, hm, hr⟩ := n15.mem hx
      refine q H6 x r ⟨(Keep.of sp5).trans st.keep, st.box⟩ (hr.keep (hb.same sp5) st.keep) ?_
      simp only [List.mem_append, List.mem_cons, List.not_mem_nil, or_false] at hm
      rcases hm with ((h | h | h | h | h | h | h | h | h) | (h | h)) | (h | h | h) <;> subst h <;> first | exact ⟨by decide, by decide⟩ | exact ⟨by show a.natAbs < 2 ^ 110; omega, by show (1 : Int).natAbs < 2 ^ 110; decide⟩

/-! ## tables of code objects stand -/
theorem TabS.keep {H H' : Hp} {box l P : Addr} {q : Str} (t : LamX.TabS H P q) (hb : BoxAt H box l) (k : Keep box H H') : LamX.TabS H' P q := by
  obtain ⟨ps, h1, h2, h3⟩ := t
  obtain ⟨_, _, _, _, _, b1, _⟩ := hb
  refine ⟨ps, k _ _ (fun e => ?_) h1, h2, fun pos cv hc => ?_⟩
  · rw [e, b1] at h1
    cases h1
  · obtain ⟨c, e1, e2⟩ := h3 pos cv hc
    refine ⟨c, e1, k _ _ (fun e => ?_) e2⟩
    rw [e, b1] at e2
    have z := Option.some.inj e2
    unfold LamX.CodeO at z
    cases z
theorem Tabs.keep {H H' : Hp} {box l : Addr} {T : List (Addr × Str)} (t : LamX.Tabs T H) (hb : BoxAt H box l) (k : Keep box H H') : LamX.Tabs T H' := fun p hp => TabS.keep (t p hp) hb k
theorem NumV.extN {K : PySem.W.Frag} {H H' : Hp} {v : V} {q : Pr} (h : NumV K H v q) (e : LamX.ExtN H H') : NumV K H' v q := by
  obtain ⟨p, h1, h2⟩ := h
  refine ⟨p, h1, ?_⟩
  rcases h2 with (h | ⟨o, h⟩) | h
  · exact .inl (.inl (e _ _ h fun _ z => by cases z))
  · exact .inl (.inr ⟨o, e _ _ h fun _ z => by cases z⟩)
  · exact .inr h
theorem BoxAt.extN {H H' : Hp} {box l : Addr} (h : BoxAt H box l) (e : LamX.ExtN H H') : BoxAt H' box l := by
  obtain ⟨ns, i, x, s, c, h1, h2, h3⟩ := h
  exact ⟨ns, i, x, s, c, e _ _ h1 (fun _ z => by cases z), e _ _ h2 (fun _ z => by cases z), h3⟩

/-! ## a law that asks by lambdas -/
/-- _law_why as it stands at the top -/
structure WhyAt (K : PySem.W.Frag) (mg : Str → Option Value) (g : Addr) (oc : Value) (od : Option Addr) (kV doc pm : Value) (an : Option Addr) (cdv ct : Value) (osl : Array (Option Value)) : Prop where
  m : mg "_law_why" = some (.ref g)
  k : PySem.W.keepIn K (.ref g) = true
  l : K.lookup g = some ⟨oc, od, .func (PySem.W.fnOf "_law_why" "_law_why" (defArgs s__law_why) (defBody s__law_why) (defScope s__law_why) .none kV doc pm an cdv ct), osl⟩
  c : PySem.W.codeIn K cdv "_law_why" = true
  b : Binds K (PySem.W.fnOf "_law_why" "_law_why" (defArgs s__law_why) (defBody s__law_why) (defScope s__law_why) .none kV doc pm an cdv ct) ["_law_ask"] []
abbrev qLam : Str := "law.<locals>.<lambda>"
def spLawT (K : PySem.W.Frag) (TL : List (Addr × Str)) : Sp := fun vs H Q _ => ∃ (a : Addr) (ns : List Int), vs = [.ref a] ∧ SqL K H a (ns.map V.int) ∧ (∀ p ∈ TL, H p.1 = some (.tbl #[])) ∧ ∀ H', Q (.bl true) H'
theorem len_law {K TL vs H Q E} (h : spLawT K TL vs H Q E) : vs.length = (["_law_script"] : List Str).length := by
  obtain ⟨f, t, rfl, _⟩ := h
  rfl
/-- what a turn keeps -/
structure Here (box l : Addr) (T : List (Addr × Str)) (H : Hp) : Prop where
  box : BoxAt H box l
  tab : LamX.Tabs T H
theorem Here.same {box l : Addr} {T : List (Addr × Str)} {H H' : Hp} (h : Here box l T H) (s : Same H H') : Here box l T H' := ⟨h.box.same s, h.tab.ext s⟩
theorem Here.stp {box l : Addr} {T : List (Addr × Str)} {H H' : Hp} (h : Here box l T H) (s : Stp box l H H') : Here box l T H' := ⟨s.box, Tabs.keep h.tab h.box s.keep⟩
theorem Here.extN {box l : Addr} {T : List (Addr × Str)} {H H' : Hp} (h : Here box l T H) (s : LamX.ExtN H H') (t : LamX.Tabs T H') : Here box l T H' := ⟨h.box.extN s, t⟩
theorem SqT.extN {K : PySem.W.Frag} {H H' : Hp} {a : Addr} {xs : List V} (h : SqT K H a xs) (e : LamX.ExtN H H') : SqT K H' a xs := by
  rcases h with (h | ⟨o, h⟩) | h
  · exact .inl (.inl (e _ _ h fun _ z => by cases z))
  · exact .inl (.inr ⟨o, e _ _ h fun _ z => by cases z⟩)
  · exact .inr h
theorem SqT.keep {K : PySem.W.Frag} {H H' : Hp} {box l a : Addr} {xs : List V} (h : SqT K H a xs) (hb : BoxAt H box l) (e : Keep box H H') : SqT K H' a xs := by
  obtain ⟨_, _, _, _, _, b1, _⟩ := hb
  rcases h with (h | ⟨o, h⟩) | h
  · refine .inl (.inl (e _ _ (fun z => ?_) h))
    rw [z, b1] at h
    cases h
  · refine .inl (.inr ⟨o, e _ _ (fun z => ?_) h⟩)
    rw [z, b1] at h
    cases h
  · exact .inr h
theorem gName_go {i : Nat} {v : V} {σ : L2.St} {H : Hp} {Q : L2.St → Hp → Prop} (h : Q (σ.set i (some v)) H) : gName i v σ H Q := h
theorem nx_go {t u : TS} {D : Ends} {rt : VK} {bk ct : L2.St → Hp → Prop} {σ : L2.St} {H : Hp} (h : t { D with nx := u D } σ H) : Ends.nx { nx := tSeq t u D, rt := rt, bk := bk, ct := ct } σ H := h
theorem ifS_go {c : TT} {t u : TS} {D : Ends} {σ : L2.St} {H : Hp} (h : c σ H fun b H1 => if b = true then t D σ H1 else u D σ H1) : tIfS c t u D σ H := h
theorem tAsg_mid {te : TE} {g : TG} {D : Ends} {σ : L2.St} {H : Hp} (M : V → Hp → Prop) (h : ∀ v H', M v H' → g v σ H' D.nx) (k : (∀ v H', M v H' → g v σ H' D.nx) → te σ H (fun v H' => g v σ H' D.nx)) : tAsg te g D σ H := k h
theorem f97 {f : Int} (hf : IsF f) : f ≤ 97 := by
  by_cases h0 : f = 0
  · omega
  · have := hf.two h0
    omega

/-! ## _law_why -/
/-- what _law_why makes of its question: the told value and an empty text, or None and the refusal's word, in a new tuple -/
def TTwhy (K : PySem.W.Frag) (CW : Addr × Addr) : (XK → Hp → VK → Prop) → Hp → VK → Prop := fun tl H Q => ∀ (E : XK) (R : VK),
  (∀ (C dd : Addr) (w : Str) (H' : Hp), ErrIs K CW C → H' dd = some (.xd [("word", .str w)]) → (∀ p, H' p = none → Q (.ref p) (upd H' p (.tup [.non, .str w]))) → E (.ref C) (some dd) H') →
  (∀ (v : V) (H' : Hp), (∀ p, H' p = none → Q (.ref p) (upd H' p (.tup [v, .str ""]))) → R v H') → tl E H R
theorem why_asks {X : Cx} {K : PySem.W.Frag} {CW : Addr × Addr} (hK : X.K = K) {g : Addr} {cdg : Value} {q : Str} (mW : X.mg "WebError" = some (.ref CW.1)) (mM : X.mg "Missing" = some (.ref CW.2)) :
    LamX.AsksOf X ["_law_ask", "_law_told", "_law_word", "e"] "_law_why" (defScope s__law_why) g cdg (defBody s__law_why) "_law_ask" q (TTwhy K CW) := by
  subst hK
  intro f c' s H Q tl act hc h
  have nW : Names (cxOf C8.CX0 X.prog X.w X.K X.mg X.base ["_law_ask", "_law_told", "_law_word", "e"] "_law_why" (defScope s__law_why) g cdg X.A X.stack s H C8.E0).nox "WebError" (.ref CW.1) := ⟨rfl, by decide, .inl mW⟩
  have nM : Names (cxOf C8.CX0 X.prog X.w X.K X.mg X.base ["_law_ask", "_law_told", "_law_word", "e"] "_law_why" (defScope s__law_why) g cdg X.A X.stack s H C8.E0).nox "Missing" (.ref CW.2) := ⟨rfl, by decide, .inl mM⟩
  refine ⟨_, pss_cons (ps_set (i := 1) sc__law_why.nd rfl (Or.inl rfl) pe_non) (pss_cons (ps_set (i := 2) sc__law_why.nd rfl (Or.inl rfl) pe_str) (pss_cons
    (ps_try_clauses (X := (cxOf C8.CX0 X.prog X.w X.K X.mg X.base ["_law_ask", "_law_told", "_law_word", "e"] "_law_why" (defScope s__law_why) g cdg X.A X.stack s H C8.E0).nox) (i := 3) (n := "e") (W0 := fun _ _ _ _ => False)
      (tb := fun W => tAsg (fun σ H Q => σ[0]? = some (some (.ref f)) ∧ H c' = some (LamX.CodeO c' q) ∧ tl (WE W σ) H Q) (gName 1))
      rfl rfl sc__law_why.nd rfl rfl takes0 (fun W pn xe tk _ => pss_one (ps_set (i := 1) sc__law_why.nd rfl (Or.inl rfl) (act W pn xe _ _ tk)))
      (.cons nW (fun a oe cls d pn hz hf => pss_one (ps_set (i := 2) sc__law_why.nd rfl (Or.inl rfl) (pe_errF hz hf (pv 3)))) (.cons nM (fun a oe cls d pn hz hf => pss_one (ps_set (i := 2) sc__law_why.nd rfl (Or.inl rfl) (pe_errF hz hf (pv 3)))) .nil)))
    (pss_one (ps_ret (pe_tup (pa_cons (pv 1) (pa_cons (pv 2) pa_nil))))))), ?_⟩
  refine ⟨rfl, hc, h _ _ (fun C dd w H' hC hd k => ?_) (fun v H' k => ?_)⟩
  · rcases hC.te with te | ⟨te, tm⟩
    · refine ⟨true, te, fun _ a na => ?_, fun z => Bool.noConfusion z⟩
      refine ⟨_, rfl, rfl, C, dd, _, _, rfl, hC.xf, hC.noW, rfl, hd, rfl, ?_⟩
      exact ⟨_, rfl, _, rfl, (by show 2 ≤ sizeLine; decide), fun p hp => k p hp⟩
    · refine ⟨false, te, fun z => Bool.noConfusion z, fun _ => ⟨true, tm, fun _ a na => ?_, fun z => Bool.noConfusion z⟩⟩
      refine ⟨_, rfl, rfl, C, dd, _, _, rfl, hC.xf, hC.noW, rfl, hd, rfl, ?_⟩
      exact ⟨_, rfl, _, rfl, (by show 2 ≤ sizeLine; decide), fun p hp => k p hp⟩
  · exact ⟨_, rfl, _, rfl, (by show 2 ≤ sizeLine; decide), fun p hp => k p hp⟩

open Lin
/-! ## tools of a law that asks by lambdas -/
theorem Tk.extN {K : PySem.W.Frag} {H H' : Hp} (e : LamX.ExtN H H') : Tk K H H' := fun _ _ h => SqT.extN h e
theorem tSeq_join {t u : TS} {D : Ends} {σ : L2.St} {H : Hp} (M : L2.St → Hp → Prop) (hM : ∀ σ' H', M σ' H' → u D σ' H') (h : (∀ σ' H', M σ' H' → u D σ' H') → tSeq t u D σ H) : tSeq t u D σ H := h hM
theorem TabS.put {H : Hp} {P D : Addr} {q : Str} {zs : List V} {o : HO} (t : LamX.TabS H P q) (h : H D = some (.lst zs)) : LamX.TabS (upd H D o) P q := by
  obtain ⟨ps, h1, h2, h3⟩ := t
  have ne : ∀ {a : Addr} {x : HO}, H a = some x → (∀ zs, x ≠ .lst zs) → a ≠ D := fun h1 h2 e => by
    rw [e, h] at h1
    exact h2 _ (Option.some.inj h1).symm
  refine ⟨ps, by rw [upd_ne (ne h1 fun _ z => by cases z)]; exact h1, h2, fun pos cv hc => ?_⟩
  obtain ⟨c, e1, e2⟩ := h3 pos cv hc
  exact ⟨c, e1, by rw [upd_ne (ne e2 fun _ z => by unfold LamX.CodeO at z; cases z)]; exact e2⟩
theorem Tabs.put {H : Hp} {D : Addr} {T : List (Addr × Str)} {zs : List V} {o : HO} (t : LamX.Tabs T H) (h : H D = some (.lst zs)) : LamX.Tabs T (upd H D o) := fun p hp => TabS.put (t p hp) h
/-- all stays but tables, and one list -/
def KX (D : Addr) (H H' : Hp) : Prop := ∀ a o, a ≠ D → H a = some o → (∀ ps, o ≠ .tbl ps) → H' a = some o
theorem KX.refl (D : Addr) (H : Hp) : KX D H H := fun _ _ _ h _ => h
theorem KX.trans {D : Addr} {H H1 H2 : Hp} (a : KX D H H1) (b : KX D H1 H2) : KX D H H2 := fun p o n h t => b p o n (a p o n h t) t
theorem KX.ext {D : Addr} {H H' : Hp} (e : LamX.ExtN H H') : KX D H H' := fun a o _ h t => e a o h t
theorem KX.put {D : Addr} {H : Hp} {o : HO} : KX D H (upd H D o) := fun a x n h _ => by rw [upd_ne n]; exact h
theorem KX.tk {K : PySem.W.Frag} {D : Addr} {H H' : Hp} {zs : List V} (e : KX D H H') (hD : H D = some (.lst zs)) : Tk K H H' := fun a xs h => by
  have ne : ∀ {x : HO}, H a = some x → (∀ zs, x ≠ .lst zs) → a ≠ D := fun h1 h2 e => by
    rw [e, hD] at h1
    exact h2 _ (Option.some.inj h1).symm
  rcases h with (h | ⟨o, h⟩) | h
  · exact .inl (.inl (e _ _ (ne h fun _ z => by cases z) h fun _ z => by cases z))
  · exact .inl (.inr ⟨o, e _ _ (ne h fun _ z => by cases z) h fun _ z => by cases z⟩)
  · exact .inr h
theorem lst2_go {a b : TE} {σ : L2.St} {H : Hp} {Q : VK} (h : a σ H fun x H1 => b σ H1 fun y H2 => 2 ≤ sizeLine ∧ ∀ p, H2 p = none → Q (.ref p) (upd H2 p (.lst [x, y]))) : tLst (tCons a (tCons b tNil)) σ H Q := h
theorem asg_go {te : TE} {g : TG} {D : Ends} {σ : L2.St} {H : Hp} (h : te σ H fun x H1 => g x σ H1 D.nx) : tAsg te g D σ H := h
theorem nx1_go {t : TS} {D : Ends} {rt : VK} {bk ct : L2.St → Hp → Prop} {σ : L2.St} {H : Hp} (h : t D σ H) : Ends.nx { nx := t D, rt := rt, bk := bk, ct := ct } σ H := h
theorem Here.put {box l D : Addr} {T : List (Addr × Str)} {H : Hp} {xs ys : List V} (h : Here box l T H) (hD : H D = some (.lst xs)) (n1 : D ≠ box) (n2 : D ≠ l) : Here box l T (upd H D (.lst ys)) := by
  obtain ⟨⟨ns, i, x, s, c, b1, b2, b3⟩, t⟩ := h
  refine ⟨⟨ns, i, x, s, c, ?_, ?_, b3⟩, fun p hp => ?_⟩
  · rw [upd_ne (fun e => n1 e.symm)]
    exact b1
  · rw [upd_ne (fun e => n2 e.symm)]
    exact b2
  · obtain ⟨ps, h1, h2, h3⟩ := t p hp
    refine ⟨ps, ?_, h2, fun pos cv hc => ?_⟩
    · rw [upd_ne (fun e => by rw [e, hD] at h1; cases h1)]
      exact h1
    · obtain ⟨c2, e1, e2⟩ := h3 pos cv hc
      refine ⟨c2, e1, ?_⟩
      rw [upd_ne (fun e => by
        rw [e, hD] at e2
        have z := Option.some.inj e2
        unfold LamX.CodeO at z
        cases z)]
      exact e2
theorem if_go {c : TT} {t u : TS} {D : Ends} {σ : L2.St} {H : Hp} (h : c σ H fun b H1 => if b = true then t D σ H1 else u D σ H1) : tIfS c t u D σ H := h
theorem or_go {t u : TT} {σ : L2.St} {H : Hp} {Q : Bool → Hp → Prop} (h : t σ H fun c H1 => if c = true then Q true H1 else u σ H1 Q) : tOr t u σ H Q := h
theorem not_go {t : TT} {σ : L2.St} {H : Hp} {Q : Bool → Hp → Prop} (h : t σ H fun c H1 => Q (!c) H1) : tNot t σ H Q := h
theorem b_go {t : TE} {σ : L2.St} {H : Hp} {Q : Bool → Hp → Prop} (h : t σ H fun x H1 => ∃ c, x = .bl c ∧ Q c H1) : tB t σ H Q := h
theorem test_go {t : TE} {σ : L2.St} {H : Hp} {Q : Bool → Hp → Prop} (h : t σ H fun x H1 => ∃ c, x = .bl c ∧ Q c H1) : tTest t σ H Q := h
theorem call_go {S : Sp} {pre : List V} {E : XK} {t : TA} {σ : L2.St} {H : Hp} {Q : VK} (h : t σ H fun xs H1 => S (xs ++ pre) H1 Q E) : tCall S pre E t σ H Q := h
theorem next_go {t : TS} {D : Ends} {rt : VK} {bk ct : L2.St → Hp → Prop} {σ : L2.St} {H : Hp} (h : t D σ H) : tNext { nx := t D, rt := rt, bk := bk, ct := ct } σ H := h

open Lin
theorem cat_any {K : PySem.W.Frag} {H : Hp} {a b : Addr} {xs ys : List V} {Q : VK} (ha : SqT K H a xs) (hb : SqT K H b ys) (l : xs.length + ys.length ≤ 1000) (k : ∀ H' p, Same H H' → SqT K H' p (xs ++ ys) → Q (.ref p) H') : rCatA K (.ref a) (.ref b) H Q := by
  refine ⟨a, b, xs, ys, rfl, rfl, ha, hb, Nat.le_of_lt (small1000 l), fun e => ?_, fun _ e => ?_, fun _ _ p hp => k _ p (same_new hp) (SqT.of upd_same)⟩
  · subst e
    exact k H b (Same.refl _) hb
  · subst e
    exact k H a (Same.refl _) (by rw [List.append_nil]; exact ha)
theorem splice_end {K : PySem.W.Frag} {H3 : Hp} {xs : List V} {n : Nat} {p1 pt : Addr} {v : V} {σ : L2.St} {ix jx : Nat} {Q : VK} (hσ : σ[ix]? = some (some (.ref pt))) (hj : σ[jx]? = some (some (.int (n : Nat)))) (h1 : SqT K H3 p1 (xs.take n)) (ht : SqT K H3 pt xs) (l : xs.length ≤ 400)
    (k : ∀ H' p, Same H3 H' → SqT K H' p (xs.take n ++ [v] ++ xs.drop (n + 1)) → Q (.ref p) H') :
    ([v] : List V).length ≤ sizeLine ∧ ∀ p, H3 p = none → rCatA K (.ref p1) (.ref p) (upd H3 p (.tup [v])) fun x H4 => tSl (rSlA K) (tVar ix) (tPart (tOp (rI0 fun i j => V.int (i + j)) (tVar jx) (tC (V.int 1)))) tNoPart σ H4 fun y H5 => rCatA K x y H5 Q := by
  refine ⟨by show 1 ≤ sizeLine; decide, fun p hp => ?_⟩
  have t1 := same_new (o := .tup [v]) hp
  have lt : (xs.take n).length ≤ 400 := by rw [List.length_take]; omega
  refine cat_any (Same.seqT t1 h1) (SqT.of upd_same) (by show (xs.take n).length + 1 ≤ 1000; omega) fun H4 q s4 h4 => ?_
  refine ⟨_, hσ, _, hj, _, _, rfl, rfl, _, rfl, ?_⟩
  show rSlA K (.ref pt) (some (((n : Nat) : Int) + 1)) none H4 fun y H5 => rCatA K (.ref q) y H5 Q
  refine sl_any (Same.seqT (t1.trans s4) ht) fun H5 q2 s5 h5 => ?_
  rw [show ((n : Nat) : Int) + 1 = ((n + 1 : Nat) : Int) from rfl, cutV_from] at h5
  refine cat_any (Same.seqT s5 h4) h5 (by rw [List.length_append, List.length_drop]; show (xs.take n).length + 1 + (xs.length - (n + 1)) ≤ 1000; omega) fun H6 q3 s6 h6 => k _ _ (((t1.trans s4).trans s5).trans s6) h6
def colD (qs : List Pr) : PyData := .tuple (qs.map numD)
theorem dp_numsq {K : PySem.W.Frag} {H : Hp} : ∀ {vs : List V} {qs : List Pr}, NumsV K H vs qs → DpAll K H vs (qs.map numD)
  | _, _, .nil => .nil
  | _, _, .cons g r => .cons (dp_num g) (dp_numsq r)
theorem tOp_midL {r : R2} {a b : TE} {σ : L2.St} {H : Hp} {Q : VK} (M : V → Hp → Prop) (h : ∀ x H', M x H' → b σ H' fun y H2 => r x y H2 Q) (k : (∀ x H', M x H' → b σ H' fun y H2 => r x y H2 Q) → a σ H fun x H1 => b σ H1 fun y H2 => r x y H2 Q) : tOp r a b σ H Q := k h
theorem tCons_mid {a : TE} {t : TA} {σ : L2.St} {H : Hp} {Q : List V → Hp → Prop} (M : V → Hp → Prop) (h : ∀ v H', M v H' → t σ H' fun xs H2 => Q (v :: xs) H2) (k : (∀ v H', M v H' → t σ H' fun xs H2 => Q (v :: xs) H2) → a σ H fun x H1 => t σ H1 fun xs H2 => Q (x :: xs) H2) : tCons a t σ H Q := k h
theorem RowP.dp {K : PySem.W.Frag} {H : Hp} {v : V} {qs : List Pr} (h : RowP K H v qs) : Dp K H v (colD qs) := by
  obtain ⟨a, us, rfl, h1, h2⟩ := h
  exact .tup h1 (dp_numsq h2)
theorem RowsP.dp {K : PySem.W.Frag} {H : Hp} : ∀ {xs : List V} {QS : List (List Pr)}, RowsP K H xs QS → DpAll K H xs (QS.map colD)
  | _, _, .nil => .nil
  | _, _, .cons g r => .cons g.dp (RowsP.dp r)
theorem lay_col (qs : List Pr) : LayN 2 (colD qs) := lay_tup fun d hd => by
  obtain ⟨q, _, rfl⟩ := List.mem_map.mp hd
  exact lay_num q
theorem lay_tab (QS : List (List Pr)) : LayN 3 (.tuple (QS.map colD)) := lay_tup fun d hd => by
  obtain ⟨qs, _, rfl⟩ := List.mem_map.mp hd
  exact lay_col qs
theorem eqv_nilT {α : Type} {l : List α} {g : α → PyData} : PyData.eqv (.tuple (l.map g)) (.tuple []) = decide (l.length = 0) := by
  cases l with
  | nil => rfl
  | cons x l => rfl
theorem log_s8 {n : Nat} (h : n ≤ 1000) : n.log2 < 9000 := Nat.lt_of_le_of_lt (Nat.log2_le_self n) (by omega)
def rInt1 : List V → Hp → VK → Prop := fun xs H Q => (∃ i, xs = [.int i] ∧ Q (.int i) H) ∨ ∃ k, xs = [.bl k] ∧ Q (.int (if k then 1 else 0)) H
/-! ## the law's own tables -/
def Pair99 (f : Int) (q : Pr) : Prop := S99 q ∧ isNB f q = true
def spLTab (K : PySem.W.Frag) : Sp := fun vs H Q _ => ∃ (box l : Addr) (f : Int) (n w : Nat), vs = [.ref box, .int f, .int (n : Nat), .int (w : Nat)] ∧ BoxAt H box l ∧ IsF f ∧ n ≤ 500 ∧ w ≤ 500 ∧
  ∀ H' p xs QS, Stp box l H H' → SqT K H' p xs → RowsP K H' xs QS → QS.length = n → (∀ qs ∈ QS, qs.length = w ∧ ∀ q ∈ qs, Pair99 f q) → Q (.ref p) H'
theorem len__law_table {K vs H Q E} (h : spLTab K vs H Q E) : vs.length = 4 := by
  obtain ⟨box, l, f, n, w, rfl, _⟩ := h
  rfl
theorem d__law_table {P : Program} {w : World} {K : PySem.W.Frag} {mg : Str → Option Value} {base : Heap} (R : Raw K mg "_law_table" s__law_table) (B : Bn mg) (D__law_row : Def P w K mg base "_law_row" 4 ["_law_box", "_law_field_here", "_law_width"] (spLRow K)) : Def P w K mg base "_law_table" 5 ["_law_box", "_law_field_here", "_law_room", "_law_wide"] (spLTab K) := by
  obtain ⟨f, fd, F, m⟩ := R
  obtain ⟨f__law_row, fd__law_row, G__law_row, m__law_row, k__law_row, b__law_row⟩ := D__law_row
  refine ⟨f, fd, F.ok sc__law_table (fun vs H Q E h => ?_) (fun cdv A outer s H vs Q E hr h => ?_), m, F.kp, F.binds (ps := ["_law_box", "_law_field_here", "_law_room", "_law_wide"]) fun _ _ _ _ _ _ us hl => match us, hl with | [_, _, _, _], _ => rfl⟩
  · exact len__law_table h

  · obtain ⟨box, l, a, n, w, rfl, hb, hf, n5, w5, q⟩ := h
    obtain ⟨F⟩ := fd_ex hf
    refine ⟨_, (pss_one (ps_ret (pe_callTy call_tuple_of (by rfl) B.tuple (by decide +kernel) (pa_cons (pe_lc (own := [("_law_k", 4)]) (g := gName 4) (tt := tYes) rfl sc__law_table.nd (pi_range1 (by rfl) B.range (pa_cons (pv 2) pa_nil)) (blkOk_by (N := ["_law_box", "_law_field_here", "_law_room", "_law_wide", "_law_k"]) (sc := defScope s__law_table) (by decide +kernel)) (fun _ _ _ _ _ => pg_name (i := 4) sc__law_table.nd rfl (Or.inl rfl)) (fun _ _ _ _ _ => pts_nil) (fun _ _ _ _ _ => (pe_call G__law_row (hr.mono (by omega)) (by rfl) m__law_row k__law_row b__law_row .nil pass0 (pa_cons (pv 0) (pa_cons (pv 1) (pa_cons (pv 3) pa_nil)))))) pa_nil)))), ?_⟩
    refine ⟨_, rfl, (n : Nat), rfl, by omega, by omega, fun D hD => ?_⟩
    have nb : D ≠ box := hb.ne hD
    have nl : D ≠ l := by
      obtain ⟨_, _, _, _, _, _, b2, _⟩ := hb
      exact (ne_of_none b2 hD).symm
    have up : ∀ {H4 : Hp} {o : HO}, Keep box H H4 → Keep box H (upd H4 D o) := fun k b u n e => by
      rw [upd_ne (fun z => by rw [z, hD] at e; cases e)]
      exact k b u n e
    refine lc_range (lo := 0) (n := ((n : Nat) : Int).toNat) (fun i H' => BoxAt H' box l ∧ Keep box H H' ∧ ∃ (zs : List V) (QS : List (List Pr)), H' D = some (.lst zs) ∧ RowsP K H' zs QS ∧ QS.length = i ∧ ∀ qs ∈ QS, qs.length = w ∧ ∀ q ∈ qs, Pair99 a q) ⟨hb.putL nb nl, up (Keep.refl box H), [], [], upd_same, .nil, rfl, (fun x hx => by cases hx)⟩ ?_ ?_
    · rintro i H2 hi ⟨hb2, k2, zs, QS, hz, nz, ll, hs⟩
      refine ⟨rfl, tYes_of (iteT ⟨_, rfl, _, rfl, _, rfl, box, l, a, w, F, rfl, hb2, hf, w5, fun H5 v ls st hv lls h99 => ?_⟩)⟩
      have hz5 := st.keep _ _ nb hz
      have nz5 := RowsP.tk (Tk.stp (K := K) hb2 st) nz
      have lz := nz.len
      have tp := Tk.put (K := K) (o := .lst (zs ++ [v])) hz5
      refine ⟨zs, hz5, small1000 (by omega), st.box.putL nb nl, up (k2.trans st.keep), zs ++ [v], QS ++ [ls.map F.enc], upd_same, RowsP.app (RowsP.tk tp nz5) (.cons (RowP.tk (show RowP K H5 v (ls.map F.enc) from hv) tp) .nil), by rw [List.length_append, ll]; rfl, fun y hy => ?_⟩
      rcases List.mem_append.mp hy with hy | hy
      · exact hs y hy
      · rw [List.mem_singleton.mp hy]
        refine ⟨by rw [List.length_map]; exact lls, fun q hq => ?_⟩
        obtain ⟨x, hx, rfl⟩ := List.mem_map.mp hq
        exact ⟨h99 x hx, isNB_iff.mpr (F.num x)⟩
    · rintro H2 ⟨hb2, k2, zs, QS, hz, nz, ll, hs⟩
      refine ⟨D, zs, rfl, .inl ⟨SqL.of hz, fun p hp => ?_⟩⟩
      have sp := same_new (o := .tup zs) hp
      exact q _ _ zs QS ⟨k2.trans (Keep.of sp), hb2.same sp⟩ (SqT.of upd_same) (nz.same sp) (by omega) hs
theorem tab_start {f : Int} {QS : List (List Pr)} {n w : Nat} (h1 : QS.length = n) (h2 : ∀ qs ∈ QS, qs.length = w ∧ ∀ q ∈ qs, Pair99 f q) (n8 : n ≤ 8) (w8 : w ≤ 8) : TabC QS 8 8 448 := by
  refine ⟨by omega, fun qs hq => by have := (h2 qs hq).1; omega, fun qs hq q hqq => ((h2 qs hq).2 q hqq).1.sm.mono (by decide), ?_⟩
  have := cost_le (T := QS) (w := 8) (c := 7) fun qs hq => ⟨by have := (h2 qs hq).1; omega, fun q hqq => Nat.le_of_eq (cst_99 ((h2 qs hq).2 q hqq).1)⟩
  omega
def spBentTb (K : PySem.W.Frag) : Sp := fun vs H Q _ => ∃ (box l : Addr) (f : Int) (p : Addr) (xs : List V) (QS : List (List Pr)), vs = [.ref box, .int f, .ref p] ∧ BoxAt H box l ∧ IsF f ∧ SqT K H p xs ∧ RowsP K H xs QS ∧ TabC QS 8 8 448 ∧
  ∀ H' p' xs' QS', Stp box l H H' → SqT K H' p' xs' → RowsP K H' xs' QS' → TabC QS' 8 10 682 → Q (.ref p') H'
theorem len__law_bent_table {K vs H Q E} (h : spBentTb K vs H Q E) : vs.length = 3 := by
  obtain ⟨box, l, f, p, xs, QS, rfl, _⟩ := h
  rfl
theorem d__law_bent_table {P : Program} {w : World} {K : PySem.W.Frag} {mg : Str → Option Value} {base : Heap} (R : Raw K mg "_law_bent_table" s__law_bent_table) (B : Bn mg) (D__law_draw : Def P w K mg base "_law_draw" 1 ["_law_box", "_law_many"] (spDraw)) (D__law_odd_pair : Def P w K mg base "_law_odd_pair" 3 ["_law_box", "_law_field_here"] (spOdd K)) : Def P w K mg base "_law_bent_table" 4 ["_law_box", "_law_field_here", "_law_table_here"] (spBentTb K) := by
  obtain ⟨f, fd, F, m⟩ := R
  obtain ⟨f__law_draw, fd__law_draw, G__law_draw, m__law_draw, k__law_draw, b__law_draw⟩ := D__law_draw
  obtain ⟨f__law_odd_pair, fd__law_odd_pair, G__law_odd_pair, m__law_odd_pair, k__law_odd_pair, b__law_odd_pair⟩ := D__law_odd_pair
  refine ⟨f, fd, F.ok sc__law_bent_table (fun vs H Q E h => ?_) (fun cdv A outer s H vs Q E hr h => ?_), m, F.kp, F.binds (ps := ["_law_box", "_law_field_here", "_law_table_here"]) fun _ _ _ _ _ _ us hl => match us, hl with | [_, _, _], _ => rfl⟩
  · exact len__law_bent_table h

  · obtain ⟨box, l, a, p, xs, QS, rfl, hb, hf, hx, hQ, hC, q⟩ := h
    refine ⟨_, (pss_cons (ps_for PassesOwn.never rfl (pi_range1 (by rfl) B.range (pa_cons (pe_ix ix_list (pe_lst (pa_cons pe_int (pa_cons pe_int (pa_cons pe_int (pa_cons pe_int (pa_cons pe_int (pa_cons pe_int pa_nil))))))) (pe_call G__law_draw (hr.mono (by omega)) (by rfl) m__law_draw k__law_draw b__law_draw .nil pass0 (pa_cons (pv 0) (pa_cons pe_int pa_nil))) (fun _ _ => rfl)) pa_nil)) (pg_name (i := 3) sc__law_bent_table.nd rfl (Or.inl rfl)) (pss_one (ps_if (pt_cmpR (op_neD hr.units) (pv 2) (pe_tup pa_nil) (nomark _)) (pss_cons (ps_set (i := 4) sc__law_bent_table.nd rfl (Or.inl rfl) (pe_call G__law_draw (hr.mono (by omega)) (by rfl) m__law_draw k__law_draw b__law_draw .nil pass0 (pa_cons (pv 0) (pa_cons (pe_callB call_len_seq (by rfl) B.len PySem.boot_len (pa_cons (pv 2) pa_nil)) pa_nil)))) (pss_cons (ps_set (i := 5) sc__law_bent_table.nd rfl (Or.inl rfl) (pe_op (show OpR _ _ (rCatA K) from op_catA) (pe_ix ix_tup (pv 2) (pv 4) (fun _ _ => rfl)) (pe_tup (pa_cons (pe_tup (pa_cons pe_int (pa_cons pe_int pa_nil))) pa_nil)))) (pss_cons (ps_set (i := 6) sc__law_bent_table.nd rfl (Or.inl rfl) (pe_ifExp (pt_cmpR op_eq (pe_call G__law_draw (hr.mono (by omega)) (by rfl) m__law_draw k__law_draw b__law_draw .nil pass0 (pa_cons (pv 0) (pa_cons pe_int pa_nil))) pe_int (nomark _)) (pv 5) (pe_op (show OpR _ _ (rCatA K) from op_catA) (pe_slice (show SlR _ (rSlA K) from sl_tupA) (pe_ix ix_tup (pv 2) (pv 4) (fun _ _ => rfl)) (po_some pe_int) po_none) (pe_tup (pa_cons (pe_call G__law_odd_pair (hr.mono (by omega)) (by rfl) m__law_odd_pair k__law_odd_pair b__law_odd_pair .nil pass0 (pa_cons (pv 0) (pa_cons (pv 1) pa_nil))) pa_nil))))) (pss_one (ps_set (i := 2) sc__law_bent_table.nd rfl (Or.inl rfl) (pe_op (show OpR _ _ (rCatA K) from op_catA) (pe_op (show OpR _ _ (rCatA K) from op_catA) (pe_slice (show SlR _ (rSlA K) from sl_tupA) (pv 2) po_none (po_some (pv 4))) (pe_tup (pa_cons (pv 6) pa_nil))) (pe_slice (show SlR _ (rSlA K) from sl_tupA) (pv 2) (po_some (pe_op op_add (pv 4) pe_int)) po_none))))))) pss_nil))) (pss_one (ps_ret (pv 2)))), ?_⟩
    refine ⟨(by show 6 ≤ sizeLine; decide), fun ql hql => ?_⟩
    have rl := same_new (o := .lst [V.int 0, .int 0, .int 0, .int 1, .int 1, .int 2]) hql
    have hb1 := hb.same rl
    have nql := hb.ne hql
    have eql : (upd H ql (.lst [V.int 0, .int 0, .int 0, .int 1, .int 1, .int 2])) ql = some (.lst [V.int 0, .int 0, .int 0, .int 1, .int 1, .int 2]) := upd_same
    have st1 : Stp box l H (upd H ql (.lst [V.int 0, .int 0, .int 0, .int 1, .int 1, .int 2])) := ⟨Keep.of rl, hb1⟩
    generalize upd H ql (.lst [V.int 0, .int 0, .int 0, .int 1, .int 1, .int 2]) = H1 at *
    refine ⟨_, rfl, box, l, _, rfl, hb1, by decide, by decide +kernel, fun H2 d st2 d0 d1 => ?_⟩
    obtain ⟨m, hat, m2⟩ : ∃ m : Nat, atI [V.int 0, .int 0, .int 0, .int 1, .int 1, .int 2] d = some (.int (m : Nat)) ∧ m ≤ 2 := by
      have : d = 0 ∨ d = 1 ∨ d = 2 ∨ d = 3 ∨ d = 4 ∨ d = 5 := by omega
      rcases this with rfl | rfl | rfl | rfl | rfl | rfl
      · exact ⟨0, rfl, by decide⟩
      · exact ⟨0, rfl, by decide⟩
      · exact ⟨0, rfl, by decide⟩
      · exact ⟨1, rfl, by decide⟩
      · exact ⟨1, rfl, by decide⟩
      · exact ⟨2, rfl, by decide⟩
    have st12 := st1.trans st2
    have k12 := (Tk.same (K := K) rl).trans (Tk.stp (K := K) hb1 st2)
    refine ⟨ql, _, d, _, rfl, rfl, SqL.of (st2.keep _ _ nql eql), hat, (m : Nat), rfl, by omega, by omega, for_range (lo := 0) (n := ((m : Nat) : Int).toNat) (fun j σ H' => Stp box l H H' ∧ ∃ (p : Addr) (xs : List V) (QS : List (List Pr)) (z3 z4 z5 z6 : Option V), SqT K H' p xs ∧ RowsP K H' xs QS ∧ TabC QS 8 (8 + j) (448 + 117 * j) ∧ σ = [some (.ref box), some (.int a), some (.ref p), z3, z4, z5, z6]) ⟨st12, p, xs, QS, _, _, _, _, k12 _ _ hx, RowsP.tk k12 hQ, hC, rfl⟩ ?_ ?_⟩
    rotate_left
    · rintro σ H3 ⟨st3, p, xs, QS, z3, z4, z5, z6, hx, hQ, hC, rfl⟩
      rw [Int.toNat_natCast] at hC
      exact ⟨_, rfl, q _ _ _ _ st3 hx hQ (hC.mono (Nat.le_refl _) (by omega) (by omega))⟩
    rintro j σ H3 hj ⟨st3, p, xs, QS, z3, z4, z5, z6, hx, hQ, hC, rfl⟩
    rw [Int.toNat_natCast] at hj
    have lq := hQ.len
    have l8 := hC.len
    refine ⟨_, rfl, (by show 0 ≤ sizeLine; decide), fun pz hz => ?_⟩
    have sz := same_new (o := .tup []) hz
    refine ⟨.tuple (QS.map colD), .tuple [], .tup (Same.seqT sz hx) (hQ.same sz).dp, .tup (SqT.of upd_same) .nil, (lay_tab QS).shaped (by decide), by decide, ?_⟩
    rw [eqv_nilT]
    have st4 := st3.same sz
    have hx4 := Same.seqT sz hx
    have hQ4 := hQ.same sz
    generalize upd H3 pz (.tup []) = H4 at *
    refine ⟨_, rfl, ite2 (fun e => ?_) (fun _ => ⟨st4, p, xs, QS, _, _, _, _, hx4, hQ4, hC.mono (Nat.le_refl _) (by omega) (by omega), rfl⟩)⟩
    have n0 : QS.length ≠ 0 := fun z => by rw [decide_eq_true z] at e; cases e
    refine ⟨_, rfl, _, rfl, p, xs, rfl, .inr hx4, box, l, (xs.length : Nat), rfl, st4.box, by omega, log_s8 (by omega), fun H5 k st5 k0 k1 => ?_⟩
    obtain ⟨k, rfl⟩ := Int.eq_ofNat_of_zero_le k0
    have k5 := Tk.stp (K := K) st4.box st5
    have hx5 := k5 _ _ hx4
    have hQ5 := RowsP.tk k5 hQ4
    have st35 := st4.trans st5
    have hkx : xs[k]? = some xs[k] := List.getElem?_eq_getElem (by omega)
    generalize xs[k] = v at hkx
    obtain ⟨qs, hqs, hv⟩ := hQ5.pick hkx
    obtain ⟨r, ys, rfl, hr, hn⟩ := id hv
    have ly := hn.lenQ
    have lw := hC.wid qs (List.mem_of_getElem? hqs)
    have lsm := hC.sm qs (List.mem_of_getElem? hqs)
    refine gName_go3 (nx_go3 ?_)
    refine ⟨_, rfl, _, rfl, p, xs, _, _, rfl, rfl, hx5, atI_nat hkx, (by show 2 ≤ sizeLine; decide), fun p1 h1 => ⟨(by show 1 ≤ sizeLine; decide), fun p2 h2 => ?_⟩⟩
    have t1 := same_new (o := .tup [.int 1, .int 1]) h1
    have t2 := same_new (o := .tup [.ref p1]) h2
    have t12 := t1.trans t2
    refine catA_go (Same.seqT t12 hr) (SqT.of upd_same) (by show ys.length + 1 ≤ sizeLine; exact Nat.le_of_lt (small1000 (by omega))) fun H6 pl s6 hpl => ?_
    have n1 : NumV K H6 (.ref p1) (1, 1) := ((NumV.new 1 1).same t2).same s6
    have s56 := t12.trans s6
    have hnl : NumsV K H6 (ys ++ [.ref p1]) (qs ++ [(1, 1)]) := NumsV.app (NumsV.same s56 hn) (.cons n1 .nil)
    have st6 := st35.same s56
    have hx6 := Same.seqT s56 hx5
    have hQ6 := hQ5.same s56
    have hr6 := Same.seqT s56 hr
    have hn6 := NumsV.same s56 hn
    refine gName_go3 (nx_go3 (tAsg_mid (fun x H' => ∃ (pr : Addr) (zs : List V) (rs : List Pr), x = .ref pr ∧ Stp box l H H' ∧ SqT K H' pr zs ∧ NumsV K H' zs rs ∧ SqT K H' p xs ∧ RowsP K H' xs QS ∧ rs.length ≤ 9 + j ∧ (∀ q ∈ rs, Sm 110 q) ∧ (rs.map cst).sum ≤ (qs.map cst).sum + 117) ?_ fun rest => ?_))
    · rintro _ H7 ⟨pr, zs, rs, rfl, st7, hpr, hrs, hx7, hQ7, lr, sr, cr⟩
      refine gName_go3 (nx_go3 ?_)
      refine ⟨_, rfl, _, rfl, _, rfl, ?_⟩
      show rSlA K (.ref p) none (some ((k : Nat) : Int)) H7 _
      refine slA_go hx7 fun H8 p8 s8 h8 => ?_
      rw [cutV_to] at h8
      refine ⟨_, rfl, ?_⟩
      refine splice_end (xs := xs) (n := k) rfl rfl h8 (Same.seqT s8 hx7) (by omega) fun H9 p9 s9 h9 => ?_
      have s89 := s8.trans s9
      refine ⟨st7.same s89, p9, _, _, _, _, _, _, h9, RowsP.app (RowsP.app (RowsP.take k (hQ7.same s89)) (.cons ⟨pr, zs, rfl, Same.seqT s89 hpr, NumsV.same s89 hrs⟩ .nil)) (RowsP.drop (k + 1) (hQ7.same s89)), ?_, rfl⟩
      have := hC.set (x' := rs) (w' := 8 + (j + 1)) (k := 117) hqs (by omega) (by omega) sr cr
      exact this.mono (Nat.le_refl _) (Nat.le_refl _) (by omega)
    · refine ⟨_, rfl, box, l, _, rfl, st6.box, by decide, by decide +kernel, fun H7 c st7 _ _ => ?_⟩
      have k7 := Tk.stp (K := K) st6.box st7
      refine ⟨rfl, _, rfl, ite2 (fun _ => ?_) (fun _ => ?_)⟩
      · refine ⟨_, rfl, rest _ _ ⟨pl, _, _, rfl, st6.trans st7, k7 _ _ hpl, hnl.tk k7, k7 _ _ hx6, RowsP.tk k7 hQ6, ?_, fun q hq => ?_, ?_⟩⟩
        · rw [List.length_append]
          show qs.length + 1 ≤ 9 + j
          omega
        · rcases List.mem_append.mp hq with hq | hq
          · exact lsm q hq
          · rw [List.mem_singleton.mp hq]
            exact ⟨by decide, by decide⟩
        · rw [List.map_append, List.sum_append]
          show _ + (cst (1, 1) + 0) ≤ _
          have : cst (1, 1) = 7 := by decide
          omega
      · refine ⟨_, rfl, _, rfl, p, xs, _, _, rfl, rfl, k7 _ _ hx6, atI_nat hkx, _, rfl, ?_⟩
        unfold tNoPart
        refine slA_go (k7 _ _ hr6) fun H8 p8 s8 h8 => ?_
        have h8 : SqT K H8 p8 (ys.drop 1) := by
          have e := cutV_from ys 1
          rw [← e]
          exact h8
        have st8 := (st6.trans st7).same s8
        refine ⟨_, rfl, _, rfl, box, l, a, rfl, st8.box, by have := hf.nn; omega, f97 hf, fun H9 v9 q9 st9 hv9 sm9 => ?_⟩
        have k9 := Tk.stp (K := K) st8.box st9
        refine ⟨(by show 1 ≤ sizeLine; decide), fun p10 h10 => ?_⟩
        have t10 := same_new (o := .tup [v9]) h10
        refine catA_go (Same.seqT t10 (k9 _ _ h8)) (SqT.of upd_same) (by rw [List.length_drop]; show ys.length - 1 + 1 ≤ sizeLine; exact Nat.le_of_lt (small1000 (by omega))) fun H11 p11 s11 h11 => ?_
        have t11 := t10.trans s11
        have k11 := ((k7.trans (Tk.same (K := K) s8)).trans k9).trans (Tk.same (K := K) t11)
        refine rest _ _ ⟨p11, _, qs.drop 1 ++ [q9], rfl, (st8.trans st9).same t11, h11, NumsV.app (NumsV.drop 1 (hn6.tk k11)) (.cons (hv9.same t11) .nil), k11 _ _ hx6, RowsP.tk k11 hQ6, ?_, fun q hq => ?_, ?_⟩
        · rw [List.length_append, List.length_drop]
          show qs.length - 1 + 1 ≤ 9 + j
          omega
        · rcases List.mem_append.mp hq with hq | hq
          · exact lsm q (List.mem_of_mem_drop hq)
          · rw [List.mem_singleton.mp hq]
            exact sm9
        · rw [List.map_append, List.sum_append]
          show _ + (cst q9 + 0) ≤ _
          have := cst_le q9
          have h2 : ((qs.drop 1).map cst).sum ≤ (qs.map cst).sum := by
            cases qs with
            | nil => exact Nat.le_refl _
            | cons x qs =>
              rw [List.map_cons, List.sum_cons]
              show (qs.map cst).sum ≤ _
              omega
          omega
def leadWord (f : Int) (QS : List (List Pr)) (cq : List Pr) : Str := if lensQ QS cq.length = true then (if (QS.all (goodAll f) && goodAll f cq) = true then "" else "badnumber") else "badshape"
def spLeadW (K : PySem.W.Frag) : Sp := fun vs H Q _ => ∃ (f : Int) (p c : Addr) (xs ys : List V) (QS : List (List Pr)) (cq : List Pr), vs = [.int f, .ref p, .ref c] ∧ 0 ≤ f ∧ SqT K H p xs ∧ RowsP K H xs QS ∧ SqT K H c ys ∧ NumsV K H ys cq ∧ QS.length ≤ 100 ∧ (∀ qs ∈ QS, qs.length ≤ 100) ∧ cq.length ≤ 100 ∧ ∀ H', Same H H' → Q (.str (leadWord f QS cq)) H'
theorem len__law_lead_word {K vs H Q E} (h : spLeadW K vs H Q E) : vs.length = 3 := by
  obtain ⟨f, p, c, xs, ys, QS, cq, rfl, _⟩ := h
  rfl
theorem d__law_lead_word {P : Program} {w : World} {K : PySem.W.Frag} {mg : Str → Option Value} {base : Heap} (R : Raw K mg "_law_lead_word" s__law_lead_word) (B : Bn mg) (D__law_numbers_good : Def P w K mg base "_law_numbers_good" 3 ["_law_field_here", "_law_rows"] (spNumGood K)) : Def P w K mg base "_law_lead_word" 4 ["_law_field_here", "_law_table_here", "_law_column"] (spLeadW K) := by
  obtain ⟨f, fd, F, m⟩ := R
  obtain ⟨f__law_numbers_good, fd__law_numbers_good, G__law_numbers_good, m__law_numbers_good, k__law_numbers_good, b__law_numbers_good⟩ := D__law_numbers_good
  refine ⟨f, fd, F.ok sc__law_lead_word (fun vs H Q E h => ?_) (fun cdv A outer s H vs Q E hr h => ?_), m, F.kp, F.binds (ps := ["_law_field_here", "_law_table_here", "_law_column"]) fun _ _ _ _ _ _ us hl => match us, hl with | [_, _, _], _ => rfl⟩
  · exact len__law_lead_word h

  · obtain ⟨f, p, c, xs, ys, QS, cq, rfl, f0, hx, hQ, hy, hc, l1, l2, l3, q⟩ := h
    refine ⟨_, (pss_cons (ps_if (pt_not (pt_val (pe_callB (cr_all rfl) (by rfl) B.all (by decide +kernel) (pa_cons (pe_lc (own := [("_law_row_here", 3)]) (g := gName 3) (tt := tYes) rfl sc__law_lead_word.nd (pi_tup (pv 1)) (blkOk_by (N := ["_law_field_here", "_law_table_here", "_law_column", "_law_row_here"]) (sc := defScope s__law_lead_word) (by decide +kernel)) (fun _ _ _ _ _ => pg_name (i := 3) sc__law_lead_word.nd rfl (Or.inl rfl)) (fun _ _ _ _ _ => pts_nil) (fun _ _ _ _ _ => (pe_cmpR op_eq (pe_callB (show CallR _ _ (rLen K) from cr_len) (by rfl) B.len PySem.boot_len (pa_cons (pv 3) pa_nil)) (pe_callB (show CallR _ _ (rLen K) from cr_len) (by rfl) B.len PySem.boot_len (pa_cons (pv 2) pa_nil)) (nomark _)))) pa_nil)))) (pss_one (ps_ret pe_str)) pss_nil) (pss_one (ps_ret (pe_ifExp (pt_val (pe_call G__law_numbers_good (hr.mono (by omega)) (by rfl) m__law_numbers_good k__law_numbers_good b__law_numbers_good .nil pass0 (pa_cons (pv 0) (pa_cons (pe_op (show OpR _ _ (rCatA K) from op_catA) (pv 1) (pe_tup (pa_cons (pv 2) pa_nil))) pa_nil)))) pe_str pe_str)))), ?_⟩
    have lq := hQ.len
    have lc := hc.lenQ
    refine ⟨_, rfl, p, rfl, ⟨_, hx⟩, fun D hD => lc_tup (K := K) (a := p) (xs := xs) (fun i H' => Same H H' ∧ H' D = some (.lst (((QS.take i).map fun qs => decide (qs.length = cq.length)).map V.bl))) ⟨same_new hD, upd_same⟩ (fun i H' _ ⟨s, _⟩ => Same.seqT s hx) ?_ ?_⟩
    · rintro i x H2 hi ⟨s, hD'⟩
      obtain ⟨qs, e1, h1⟩ := hQ.pick hi
      obtain ⟨r, us, rfl, hu, hn⟩ := h1.same s
      have lu := hn.lenQ
      refine ⟨rfl, tYes_of (iteT ⟨_, rfl, r, us, rfl, .inr hu, _, rfl, c, ys, rfl, .inr (Same.seqT s hy), rfl, _, hD', ?_, same_seqT_upd s hD hD', ?_⟩)⟩
      · rw [List.length_map, List.length_map, List.length_take]
        exact small1000 (by omega)
      · rw [upd_same, List.take_add_one, e1, List.map_append, List.map_append, lu, lc, decI, show decide ((qs.length : Int) = (cq.length : Int)) = decide (qs.length = cq.length) from decide_eq_decide.mpr (by omega)]
        rfl
    rintro H2 ⟨s, hD'⟩
    rw [lq, List.take_length] at hD'
    refine ⟨D, QS.map fun qs => decide (qs.length = cq.length), rfl, SqL.of hD', ?_⟩
    have e : (QS.map fun qs => decide (qs.length = cq.length)).all id = lensQ QS cq.length := by
      unfold lensQ
      rw [List.all_map]
      rfl
    rw [e]
    unfold leadWord at q
    cases hg : lensQ QS cq.length with
    | false =>
      rw [hg] at q
      exact ⟨_, rfl, iteT (q _ s)⟩
    | true =>
      rw [hg] at q
      refine ⟨_, rfl, iteF (nx1_go ?_)⟩
      refine ⟨_, rfl, _, rfl, _, rfl, (by show 1 ≤ sizeLine; decide), fun p1 h1 => ?_⟩
      have t1 := same_new (o := .tup [.ref c]) h1
      have s1 := s.trans t1
      refine catA_go (Same.seqT s1 hx) (SqT.of upd_same) (by show xs.length + 1 ≤ sizeLine; exact Nat.le_of_lt (small1000 (by omega))) fun H3 p3 s3 h3 => ?_
      have s13 := s1.trans s3
      refine ⟨f, true, p3, _, QS ++ [cq], rfl, f0, h3, RowsP.app (hQ.same s13) (.cons ⟨c, ys, rfl, Same.seqT s13 hy, NumsV.same s13 hc⟩ .nil), by rw [List.length_append]; show QS.length + 1 ≤ 900; omega, fun qs hqs => ?_, fun H4 s4 => ?_⟩
      · rcases List.mem_append.mp hqs with hq | hq
        · have := l2 qs hq
          omega
        · rw [List.mem_singleton.mp hq]
          omega
      · have e2 : ((QS ++ [cq]).all fun qs => qs.all (isNB f)) = (QS.all (goodAll f) && goodAll f cq) := by
          rw [List.all_append, List.all_cons, List.all_nil, Bool.and_true]
          rfl
        rw [e2]
        refine ⟨_, rfl, ?_⟩
        have q := q H4 (s13.trans s4)
        cases hh : (QS.all (goodAll f) && goodAll f cq) with
        | true =>
          rw [hh] at q
          exact iteT q
        | false =>
          rw [hh] at q
          exact iteF q
def behWord (f : Int) (QS PS : List (List Pr)) : Str := if shapeB QS PS = true then (if (QS.all (goodAll f) && PS.all (goodAll f)) = true then "" else "badnumber") else "badshape"
def spBehW (K : PySem.W.Frag) : Sp := fun vs H Q _ => ∃ (f : Int) (p r : Addr) (xs ys : List V) (QS PS : List (List Pr)), vs = [.int f, .ref p, .ref r] ∧ 0 ≤ f ∧ SqT K H p xs ∧ RowsP K H xs QS ∧ SqT K H r ys ∧ RowsP K H ys PS ∧ QS.length ≤ 100 ∧ (∀ qs ∈ QS, qs.length ≤ 100) ∧ PS.length ≤ 100 ∧ (∀ qs ∈ PS, qs.length ≤ 100) ∧ ∀ H', Same H H' → Q (.str (behWord f QS PS)) H'
theorem len__law_behind_word {K vs H Q E} (h : spBehW K vs H Q E) : vs.length = 3 := by
  obtain ⟨f, p, c, xs, ys, QS, cq, rfl, _⟩ := h
  rfl
theorem d__law_behind_word {P : Program} {w : World} {K : PySem.W.Frag} {mg : Str → Option Value} {base : Heap} (R : Raw K mg "_law_behind_word" s__law_behind_word) (B : Bn mg) (D__law_numbers_good : Def P w K mg base "_law_numbers_good" 3 ["_law_field_here", "_law_rows"] (spNumGood K)) : Def P w K mg base "_law_behind_word" 4 ["_law_field_here", "_law_table_here", "_law_other"] (spBehW K) := by
  obtain ⟨f, fd, F, m⟩ := R
  obtain ⟨f__law_numbers_good, fd__law_numbers_good, G__law_numbers_good, m__law_numbers_good, k__law_numbers_good, b__law_numbers_good⟩ := D__law_numbers_good
  refine ⟨f, fd, F.ok sc__law_behind_word (fun vs H Q E h => ?_) (fun cdv A outer s H vs Q E hr h => ?_), m, F.kp, F.binds (ps := ["_law_field_here", "_law_table_here", "_law_other"]) fun _ _ _ _ _ _ us hl => match us, hl with | [_, _, _], _ => rfl⟩
  · exact len__law_behind_word h

  · obtain ⟨f, p, r, xs, ys, QS, PS, rfl, f0, hx, hQ, hy, hP, l1, l2, l3, l4, q⟩ := h
    refine ⟨_, (pss_cons (ps_set (i := 3) sc__law_behind_word.nd rfl (Or.inr rfl) (pe_ifExp (pt_cmpR (op_neD hr.units) (pv 2) (pe_tup pa_nil) (nomark _)) (pe_callB call_len_seq (by rfl) B.len PySem.boot_len (pa_cons (pe_ix ix_tup (pv 2) pe_int (fun _ _ => rfl)) pa_nil)) pe_int)) (pss_cons (ps_if (PW.pt (pw_or (pt_not (pt_val (pe_callB (cr_all rfl) (by rfl) B.all (by decide +kernel) (pa_cons (pe_lc (own := [("_law_row_here", 4)]) (g := gName 4) (tt := tYes) rfl sc__law_behind_word.nd (pi_tup (pv 1)) (blkOk_by (N := ["_law_field_here", "_law_table_here", "_law_other", "_law_wide", "_law_row_here"]) (sc := defScope s__law_behind_word) (by decide +kernel)) (fun _ _ _ _ _ => pg_name (i := 4) sc__law_behind_word.nd rfl (Or.inl rfl)) (fun _ _ _ _ _ => pts_nil) (fun _ _ _ _ _ => (pe_cmpR op_eq (pe_callB (show CallR _ _ (rLen K) from cr_len) (by rfl) B.len PySem.boot_len (pa_cons (pv 4) pa_nil)) (pe_callB (show CallR _ _ (rLen K) from cr_len) (by rfl) B.len PySem.boot_len (pa_cons (pv 2) pa_nil)) (nomark _)))) pa_nil)))) (pw_or1 (pt_not (pt_val (pe_callB (cr_all rfl) (by rfl) B.all (by decide +kernel) (pa_cons (pe_lc (own := [("_law_row_here", 4)]) (g := gName 4) (tt := tYes) rfl sc__law_behind_word.nd (pi_tup (pv 2)) (blkOk_by (N := ["_law_field_here", "_law_table_here", "_law_other", "_law_wide", "_law_row_here"]) (sc := defScope s__law_behind_word) (by decide +kernel)) (fun _ _ _ _ _ => pg_name (i := 4) sc__law_behind_word.nd rfl (Or.inl rfl)) (fun _ _ _ _ _ => pts_nil) (fun _ _ _ _ _ => (pe_cmpR op_eq (pe_callB (show CallR _ _ (rLen K) from cr_len) (by rfl) B.len PySem.boot_len (pa_cons (pv 4) pa_nil)) (pv 3) (nomark _)))) pa_nil))))))) (pss_one (ps_ret pe_str)) pss_nil) (pss_one (ps_ret (pe_ifExp (pt_val (pe_call G__law_numbers_good (hr.mono (by omega)) (by rfl) m__law_numbers_good k__law_numbers_good b__law_numbers_good .nil pass0 (pa_cons (pv 0) (pa_cons (pe_op (show OpR _ _ (rCatA K) from op_catA) (pv 1) (pv 2)) pa_nil)))) pe_str pe_str))))), ?_⟩
    have lq := hQ.len
    have lp := hP.len
    refine tAsg_mid (fun x H' => x = .int (rlenQ PS : Nat) ∧ Same H H') ?_ fun rest => ?_
    rotate_left
    · refine ⟨_, rfl, (by show 0 ≤ sizeLine; decide), fun pz hz => ?_⟩
      have sz := same_new (o := .tup []) hz
      refine ⟨.tuple (PS.map colD), .tuple [], .tup (Same.seqT sz hy) (hP.same sz).dp, .tup (SqT.of upd_same) .nil, (lay_tab PS).shaped (by decide), by decide, ?_⟩
      rw [eqv_nilT]
      have hy4 := Same.seqT sz hy
      have hP4 := hP.same sz
      generalize upd H pz (.tup []) = H4 at *
      cases hP4 with
      | nil => exact ⟨_, rfl, iteF (rest _ _ ⟨rfl, sz⟩)⟩
      | cons g t =>
        obtain ⟨r1, us, rfl, hu, hn⟩ := g
        have lu := hn.lenQ
        refine ⟨_, rfl, iteT ⟨_, rfl, r, _, _, _, rfl, rfl, hy4, atI_nat (j := 0) rfl, r1, us, rfl, .inr hu, rest _ _ ⟨?_, sz⟩⟩⟩
        rw [lu]
        rfl
    rintro _ H1 ⟨rfl, s1⟩
    have hx1 := Same.seqT s1 hx
    have hQ1 := hQ.same s1
    have hy1 := Same.seqT s1 hy
    have hP1 := hP.same s1
    refine gName_go (nx_go ?_)
    refine ⟨_, rfl, p, rfl, ⟨_, hx1⟩, fun D hD => lc_tup (K := K) (a := p) (xs := xs) (fun i H' => Same H1 H' ∧ H' D = some (.lst (((QS.take i).map fun qs => decide (qs.length = PS.length)).map V.bl))) ⟨same_new hD, upd_same⟩ (fun i H' _ ⟨s, _⟩ => Same.seqT s hx1) ?_ ?_⟩
    · rintro i x H2 hi ⟨s, hD'⟩
      obtain ⟨qs, e1, h1⟩ := hQ1.pick hi
      obtain ⟨r1, us, rfl, hu, hn⟩ := h1.same s
      have lu := hn.lenQ
      refine ⟨rfl, tYes_of (iteT ⟨_, rfl, r1, us, rfl, .inr hu, _, rfl, r, ys, rfl, .inr (Same.seqT s hy1), rfl, _, hD', ?_, same_seqT_upd s hD hD', ?_⟩)⟩
      · rw [List.length_map, List.length_map, List.length_take]
        exact small1000 (by omega)
      · rw [upd_same, List.take_add_one, e1, List.map_append, List.map_append, lu, lp, decI, show decide ((qs.length : Int) = (PS.length : Int)) = decide (qs.length = PS.length) from decide_eq_decide.mpr (by omega)]
        rfl
    rintro H2 ⟨s, hD'⟩
    rw [lq, List.take_length] at hD'
    refine ⟨D, QS.map fun qs => decide (qs.length = PS.length), rfl, SqL.of hD', ?_⟩
    have e : (QS.map fun qs => decide (qs.length = PS.length)).all id = lensQ QS PS.length := by
      unfold lensQ
      rw [List.all_map]
      rfl
    rw [e]
    unfold behWord shapeB at q
    cases hg : lensQ QS PS.length with
    | false =>
      rw [hg, Bool.false_and] at q
      exact ⟨_, rfl, iteT (q _ (s1.trans s))⟩
    | true =>
      rw [hg, Bool.true_and] at q
      refine ⟨_, rfl, iteF ?_⟩
      have hy2 := Same.seqT s hy1
      have hP2 := hP1.same s
      refine ⟨_, rfl, r, rfl, ⟨_, hy2⟩, fun D2 hD2 => lc_tup (K := K) (a := r) (xs := ys) (fun i H' => Same H2 H' ∧ H' D2 = some (.lst (((PS.take i).map fun qs => decide (qs.length = rlenQ PS)).map V.bl))) ⟨same_new hD2, upd_same⟩ (fun i H' _ ⟨s, _⟩ => Same.seqT s hy2) ?_ ?_⟩
      · rintro i x H3 hi ⟨s3, hD3⟩
        obtain ⟨qs, e1, h1⟩ := hP2.pick hi
        obtain ⟨r1, us, rfl, hu, hn⟩ := h1.same s3
        have lu := hn.lenQ
        refine ⟨rfl, tYes_of (iteT ⟨_, rfl, r1, us, rfl, .inr hu, _, rfl, rfl, _, hD3, ?_, same_seqT_upd s3 hD2 hD3, ?_⟩)⟩
        · rw [List.length_map, List.length_map, List.length_take]
          exact small1000 (by omega)
        · rw [upd_same, List.take_add_one, e1, List.map_append, List.map_append, lu, decI, show decide ((qs.length : Int) = ((rlenQ PS : Nat) : Int)) = decide (qs.length = rlenQ PS) from decide_eq_decide.mpr (by omega)]
          rfl
      rintro H3 ⟨s3, hD3⟩
      rw [lp, List.take_length] at hD3
      refine ⟨D2, PS.map fun qs => decide (qs.length = rlenQ PS), rfl, SqL.of hD3, ?_⟩
      have e : (PS.map fun qs => decide (qs.length = rlenQ PS)).all id = lensQ PS (rlenQ PS) := by
        unfold lensQ
        rw [List.all_map]
        rfl
      rw [e]
      have s13 := (s1.trans s).trans s3
      cases hg2 : lensQ PS (rlenQ PS) with
      | false =>
        rw [hg2] at q
        exact ⟨_, rfl, iteT (q _ s13)⟩
      | true =>
        rw [hg2] at q
        refine ⟨_, rfl, iteF (nx1_go ?_)⟩
        refine ⟨_, rfl, _, rfl, _, rfl, ?_⟩
        refine catA_go (Same.seqT s13 hx) (Same.seqT s13 hy) (Nat.le_of_lt (small1000 (by omega))) fun H4 p4 s4 h4 => ?_
        have s14 := s13.trans s4
        refine ⟨f, true, p4, _, QS ++ PS, rfl, f0, h4, RowsP.app (hQ.same s14) (hP.same s14), by rw [List.length_append]; omega, fun qs hqs => ?_, fun H5 s5 => ?_⟩
        · rcases List.mem_append.mp hqs with hq | hq
          · have := l2 qs hq
            omega
          · have := l4 qs hq
            omega
        · have e2 : ((QS ++ PS).all fun qs => qs.all (isNB f)) = (QS.all (goodAll f) && PS.all (goodAll f)) := by
            rw [List.all_append]
            rfl
          rw [e2]
          refine ⟨_, rfl, ?_⟩
          have q := q H5 (s14.trans s5)
          cases hh : (QS.all (goodAll f) && PS.all (goodAll f)) with
          | true =>
            rw [hh] at q
            exact iteT q
          | false =>
            rw [hh] at q
            exact iteF q

open Lin
theorem KX.of {D : Addr} {H H' : Hp} (s : Same H H') : KX D H H' := fun a o _ h _ => s a o h
theorem KX.keep {D : Addr} {H H' : Hp} (s : Keep D H H') : KX D H H' := fun a o n h _ => s a o n h
theorem KX.tkb {K : PySem.W.Frag} {box l : Addr} {H H' : Hp} (e : KX box H H') (hb : BoxAt H box l) : Tk K H H' := by
  obtain ⟨ns, i, x, s, c, b1, _⟩ := hb
  exact KX.tk e b1
theorem beh_join {f : Int} (hf : IsF f) (F : Fd f) {QS PS : List (List Pr)} {r1 w1 c1 r2 w2 c2 : Nat} (hQ : TabC QS r1 w1 c1) (hP : TabC PS r2 w2 c2) (hr : r2 ≤ 16) (hc : c1 + c2 ≤ 6600) (c7 : 7 ≤ c1) (d7 : 7 ≤ c2) (hs : shapeB QS PS = true) (hg : (QS.all (goodAll f) && PS.all (goodAll f)) = true) :
    ∃ T U : List (List F.F), (T.map fun l => l.map F.enc) = QS ∧ (U.map fun l => l.map F.enc) = PS ∧ (letI := F.fld; letI := F.dec; Tbl T.length U.length T ∧ Tbl U.length (rlenQ PS) U) ∧ JoinOk F T U (rlenQ PS) ∧ (letI := F.fld; HtJ F (c1 + 1) (fun q : Nat × Nat => vec (T.getD q.1 []) q.2)) ∧ (letI := F.fld; HtJ F (c2 + 1) (fun q : Nat × Nat => vec (U.getD q.1 []) q.2)) := by
  letI := F.fld
  letI := F.dec
  rw [Bool.and_eq_true] at hg
  unfold shapeB at hs
  rw [Bool.and_eq_true] at hs
  obtain ⟨T, rfl⟩ := goods_lift (F := F) hg.1
  obtain ⟨U, rfl⟩ := goods_lift (F := F) hg.2
  have h1 := lensQ_iff.mp hs.1
  have h2 := lensQ_iff.mp hs.2
  rw [List.length_map] at h1
  have tT : Tbl T.length U.length T := ⟨rfl, fun l hl => by
    have := h1 _ (List.mem_map_of_mem (f := fun l => l.map F.enc) hl)
    rw [List.length_map] at this
    exact this⟩
  have tU : Tbl U.length (rlenQ (U.map fun l => l.map F.enc)) U := ⟨rfl, fun l hl => by
    have := h2 _ (List.mem_map_of_mem (f := fun l => l.map F.enc) hl)
    rw [List.length_map] at this
    exact this⟩
  have jT := hQ.htj hf
  have jU := hP.htj hf
  have lU := hP.len
  rw [List.length_map] at lU
  refine ⟨T, U, rfl, rfl, ⟨tT, tU⟩, fun a ha p hp => ?_, jT, jU⟩
  exact dot_okW hf (col_ht jU p) (row_htj jT ha) (by omega) (by omega) (by rw [colT_len, tT.wid a ha]; exact Nat.le_refl _) (by rw [colT_len]; omega) (by omega)
theorem word_ne {w : Str} : (!decide (V.str w = V.str w)) = false := by
  rw [decide_eq_true rfl]
  rfl
theorem beh_word {f : Int} {QS PS : List (List Pr)} : (behWord f QS PS = "" ∧ shapeB QS PS = true ∧ (QS.all (goodAll f) && PS.all (goodAll f)) = true) ∨ behWord f QS PS ≠ "" := by
  unfold behWord
  cases shapeB QS PS with
  | false => exact .inr (by rw [if_neg Bool.false_ne_true]; decide)
  | true =>
    cases (QS.all (goodAll f) && PS.all (goodAll f)) with
    | false => exact .inr (by rw [if_pos rfl, if_neg Bool.false_ne_true]; decide)
    | true => exact .inl ⟨rfl, rfl, rfl⟩
def spBehSo (K : PySem.W.Frag) (TL : List (Addr × Str)) : Sp := fun vs H Q _ => ∃ (box l : Addr) (f : Int) (p r : Addr) (xs ys : List V) (QS PS : List (List Pr)), vs = [.ref box, .int f, .ref p, .ref r] ∧ Here box l TL H ∧ IsF f ∧ SqT K H p xs ∧ RowsP K H xs QS ∧ SqT K H r ys ∧ RowsP K H ys PS ∧ TabC QS 8 10 682 ∧ TabC PS 8 10 682 ∧
  ∀ H', Here box l TL H' → KX box H H' → Q (.bl true) H'
theorem len__law_behind_so {K TL vs H Q E} (h : spBehSo K TL vs H Q E) : vs.length = 4 := by
  obtain ⟨box, l, f, p, r, xs, ys, QS, PS, rfl, _⟩ := h
  rfl
theorem d__law_behind_so {P : Program} {w : World} {K : PySem.W.Frag} {mg : Str → Option Value} {base : Heap} {CW : Addr × Addr} {f cL PT g : Addr} {oc oc2 kV doc pm ct kV2 doc2 pm2 cdv2 ct2 : Value} {od an od2 an2 : Option Addr} {osl osl2 : Array (Option Value)} {TL : List (Addr × Str)}
    (lk : K.lookup f = some ⟨oc, od, .func (PySem.W.fnOf "_law_behind_so" "_law_behind_so" (defArgs s__law_behind_so) (defBody s__law_behind_so) (defScope s__law_behind_so) .none kV doc pm an (.ref cL) ct), osl⟩) (hcd : PySem.W.codeIn K (.ref cL) "_law_behind_so" = true) (hm : mg "_law_behind_so" = some (.ref f)) (hk : PySem.W.keepIn K (.ref f) = true) (hb : Binds K (PySem.W.fnOf "_law_behind_so" "_law_behind_so" (defArgs s__law_behind_so) (defBody s__law_behind_so) (defScope s__law_behind_so) .none kV doc pm an (.ref cL) ct) ["_law_box", "_law_field_here", "_law_table_here", "_law_other"] []) (TB : LamX.TabB base mg cL PT) (hTL : (PT, ("_law_behind_so.<locals>.<lambda>" : Str)) ∈ TL) (huL : ∀ p ∈ TL, p.1 = PT → p.2 = "_law_behind_so.<locals>.<lambda>")
    (W : WhyAt K mg g oc2 od2 kV2 doc2 pm2 an2 cdv2 ct2 osl2) (mW : mg "WebError" = some (.ref CW.1)) (mM : mg "Missing" = some (.ref CW.2)) (B : Bn mg)  (D__law_why : True) (D__law_behind_word : Def P w K mg base "_law_behind_word" 4 ["_law_field_here", "_law_table_here", "_law_other"] (spBehW K)) (D__law_row : Def P w K mg base "_law_row" 4 ["_law_box", "_law_field_here", "_law_width"] (spLRow K)) (D_lead : DefX P w K mg base "lead" 6 ["field", "table", "column"] (spLeadX K CW)) (D__law_led : Def P w K mg base "_law_led" 5 ["_law_field_here", "_law_table_here", "_law_column"] (spLed K)) (D_behind : DefX P w K mg base "behind" 7 ["field", "table", "other"] (spBehindX K CW)) (D__law_numbers : Def P w K mg base "_law_numbers" 3 ["_law_found", "_law_field_here"] (spNumbs K)) : Def P w K mg base "_law_behind_so" 10 ["_law_box", "_law_field_here", "_law_table_here", "_law_other"] (spBehSo K TL) := by
  obtain ⟨f__law_behind_word, fd__law_behind_word, G__law_behind_word, m__law_behind_word, k__law_behind_word, b__law_behind_word⟩ := D__law_behind_word
  obtain ⟨f__law_row, fd__law_row, G__law_row, m__law_row, k__law_row, b__law_row⟩ := D__law_row
  obtain ⟨f_lead, fd_lead, G_lead, m_lead, k_lead, b_lead⟩ := D_lead
  obtain ⟨f__law_led, fd__law_led, G__law_led, m__law_led, k__law_led, b__law_led⟩ := D__law_led
  obtain ⟨f_behind, fd_behind, G_behind, m_behind, k_behind, b_behind⟩ := D_behind
  obtain ⟨f__law_numbers, fd__law_numbers, G__law_numbers, m__law_numbers, k__law_numbers, b__law_numbers⟩ := D__law_numbers
  refine ⟨f, _, fn_of lk hcd sc__law_behind_so (fun vs H Q E h => len__law_behind_so h) (fun A outer s H vs Q E hr h => ?_), hm, hk, hb⟩
  suffices ∃ t, PSs (cxOf CX0 P w K mg base ["_law_box", "_law_field_here", "_law_table_here", "_law_other", "_law_found", "_law_why_here", "_law_word", "_law_wide", "_law_row_here", "_law_last"] "_law_behind_so" (defScope s__law_behind_so) f (.ref cL) A outer s H E).nox (defBody s__law_behind_so) t ∧ t { nx := fun _ H' => Q .non H', rt := Q } (start ["_law_box", "_law_field_here", "_law_table_here", "_law_other", "_law_found", "_law_why_here", "_law_word", "_law_wide", "_law_row_here", "_law_last"] vs) H by
    obtain ⟨t, h1, h2⟩ := this
    exact ⟨t, h1.nox, h2⟩
  obtain ⟨box, l, f, p, r, xs, ys, QS, PS, rfl, hh, hf, hx, hQ, hy, hP, cQ, cP, q⟩ := h
  obtain ⟨F⟩ := fd_ex hf
  letI := F.fld
  letI := F.dec
  refine ⟨_, (pss_cons (ps_asg (LamX.pe_lamS (k := 7) (T := TL) (x := "_law_why") (by rfl) W.m W.k W.l W.c W.b sc__law_why rfl (Or.inl rfl) (why_asks rfl mW mM) TB rfl (by exact hTL) (fun p hp e => huL p hp e) (hr.mono (by omega)) (LamX.lamS_by (sc := defScope s__law_behind_so) (by decide +kernel)) rfl (fun _ _ _ _ _ => rfl) (fun _ _ _ _ E _ _ hr => (pe_call G_behind (hr.mono (by omega)) (by rfl) m_behind k_behind b_behind .nil (passes_call (takes_of rfl rfl rfl rfl) (fun _ _ _ _ h => h)) (pa_cons (pv 1) (pa_cons (pv 2) (pa_cons (pv 3) pa_nil)))))) (pg_tup (by rfl) (pgs_cons (pg_name (i := 4) sc__law_behind_so.nd rfl (Or.inl rfl)) (pgs_cons (pg_name (i := 5) sc__law_behind_so.nd rfl (Or.inl rfl)) pgs_nil)))) (pss_cons (ps_set (i := 6) sc__law_behind_so.nd rfl (Or.inl rfl) (pe_call G__law_behind_word (hr.mono (by omega)) (by rfl) m__law_behind_word k__law_behind_word b__law_behind_word .nil pass0 (pa_cons (pv 1) (pa_cons (pv 2) (pa_cons (pv 3) pa_nil))))) (pss_cons (ps_if (PW.pt (pw_or (pt_cmpR op_ne (pv 5) (pv 6) (nomark _)) (pw_or1 (pt_cmpR op_ne (pv 6) pe_str (nomark _))))) (pss_one (ps_ret (pe_cmpR op_eq (pv 5) (pv 6) (nomark _)))) pss_nil) (pss_cons (ps_set (i := 7) sc__law_behind_so.nd rfl (Or.inr rfl) (pe_ifExp (pt_cmpR (op_neD hr.units) (pv 3) (pe_tup pa_nil) (nomark _)) (pe_callB call_len_seq (by rfl) B.len PySem.boot_len (pa_cons (pe_ix ix_tup (pv 3) pe_int (fun _ _ => rfl)) pa_nil)) pe_int)) (pss_cons (ps_if (pt_not (pt_val (pe_callB call_isi (by rfl) B.isinstance (by decide +kernel) (pa_cons (pv 4) (pa_cons (pe_bltn (v := .ty "tuple") (by rfl) B.tuple (by decide +kernel) rfl) pa_nil))))) (pss_one (ps_ret pe_bl)) pss_nil) (pss_cons (ps_if (pt_not (pt_val (pe_callB (cr_all rfl) (by rfl) B.all (by decide +kernel) (pa_cons (pe_lc (own := [("_law_row_here", 8)]) (g := gName 8) (tt := tYes) rfl sc__law_behind_so.nd (pi_tup (pv 4)) (blkOk_by (N := ["_law_box", "_law_field_here", "_law_table_here", "_law_other", "_law_found", "_law_why_here", "_law_word", "_law_wide", "_law_row_here", "_law_last"]) (sc := defScope s__law_behind_so) (by decide +kernel)) (fun _ _ _ _ _ => pg_name (i := 8) sc__law_behind_so.nd rfl (Or.inl rfl)) (fun _ _ _ _ _ => pts_nil) (fun _ _ _ _ _ => (pe_and (pe_call G__law_numbers (hr.mono (by omega)) (by rfl) m__law_numbers k__law_numbers b__law_numbers .nil pass0 (pa_cons (pv 8) (pa_cons (pv 1) pa_nil))) (pe_one (pe_cmpR op_eq (pe_callB (show CallR _ _ (rLen K) from cr_len) (by rfl) B.len PySem.boot_len (pa_cons (pv 8) pa_nil)) (pv 7) (nomark _)))))) pa_nil)))) (pss_one (ps_ret pe_bl)) pss_nil) (pss_cons (ps_set (i := 9) sc__law_behind_so.nd rfl (Or.inl rfl) (pe_call G__law_row (hr.mono (by omega)) (by rfl) m__law_row k__law_row b__law_row .nil pass0 (pa_cons (pv 0) (pa_cons (pv 1) (pa_cons (pv 7) pa_nil))))) (pss_one (ps_ret (pe_cmpR (op_eqD hr.units) (pe_call G_lead (hr.mono (by omega)) (by rfl) m_lead k_lead b_lead .nil passL (pa_cons (pv 1) (pa_cons (pv 4) (pa_cons (pv 9) pa_nil)))) (pe_call G__law_led (hr.mono (by omega)) (by rfl) m__law_led k__law_led b__law_led .nil pass0 (pa_cons (pv 1) (pa_cons (pv 2) (pa_cons (pe_call G__law_led (hr.mono (by omega)) (by rfl) m__law_led k__law_led b__law_led .nil pass0 (pa_cons (pv 1) (pa_cons (pv 3) (pa_cons (pv 9) pa_nil)))) pa_nil)))) (nomark _))))))))))), ?_⟩
  have lq := hQ.len
  have lp := hP.len
  have l8 := cQ.len
  have m8 := cP.len
  refine tAsg_mid (fun x H' => ∃ (pz : Addr) (u : V), x = .ref pz ∧ SqT K H' pz [u, .str (behWord f QS PS)] ∧ (behWord f QS PS = "" → ∃ T U : List (List F.F), (T.map fun l => l.map F.enc) = QS ∧ (U.map fun l => l.map F.enc) = PS ∧ (Tbl T.length U.length T ∧ Tbl U.length (rlenQ PS) U) ∧ HtJ F 683 (fun q : Nat × Nat => vec (T.getD q.1 []) q.2) ∧ HtJ F 683 (fun q : Nat × Nat => vec (U.getD q.1 []) q.2) ∧ TabT K H' F u (joinL T U (rlenQ PS))) ∧ Here box l TL H' ∧ KX box H H') ?_ fun rest => ?_
  rotate_left
  · refine ⟨hh.tab, fun H1 e1 t1 E R' hE hR => ?_⟩
    have k1 := Tk.extN (K := K) e1
    have bad : ∀ w, behWord f QS PS = w → w ≠ "" → ∀ (C d : Addr) (H2 : Hp), ErrIs K CW C → Same H1 H2 → H2 d = some (.xd [("word", .str w)]) → E (.ref C) (some d) H2 := fun w ew nw C d H2 hC s2 hd => hE C d _ H2 hC hd fun pz hz => by
      have s3 := s2.trans (same_new (o := .tup [.non, .str w]) hz)
      have e3 := e1.trans (LamX.ExtN.of s3)
      exact rest _ _ ⟨pz, .non, rfl, by rw [ew]; exact SqT.of upd_same, fun z => absurd (ew.symm.trans z) nw, hh.extN e3 (t1.ext s3), KX.ext e3⟩
    refine ⟨_, rfl, _, rfl, _, rfl, f, p, r, xs, ys, QS, PS, rfl, k1 _ _ hx, RowsP.tk k1 hQ, k1 _ _ hy, RowsP.tk k1 hP, by omega, by omega, fun qs hq => by have := cQ.wid qs hq; omega, fun qs hq => by have := cP.wid qs hq; omega, fun z => absurd hf z, fun _ hs => bad _ (by unfold behWord; rw [hs]; rfl) (by decide), fun _ hs hg => bad _ (by unfold behWord; rw [hs, hg]; rfl) (by decide), fun _ hs hg => ?_⟩
    obtain ⟨T, U, eT, eU, tTU, hJ, jT, jU⟩ := beh_join hf F cQ cP (by decide) (by decide) (by decide) (by decide) hs hg
    refine ⟨F, T, U, RowsP.rts (by rw [eT]; exact RowsP.tk k1 hQ), RowsP.rts (by rw [eU]; exact RowsP.tk k1 hP), tTU, hJ, fun H2 v s2 hv => hR v H2 fun pz hz => ?_⟩
    have s3 := s2.trans (same_new (o := .tup [v, .str ""]) hz)
    have e3 := e1.trans (LamX.ExtN.of s3)
    have ew : behWord f QS PS = "" := by unfold behWord; rw [hs, hg]; rfl
    exact rest _ _ ⟨pz, v, rfl, by rw [ew]; exact SqT.of upd_same, fun _ => ⟨T, U, eT, eU, tTU, jT, jU, hv.tk (Tk.same (same_new (o := .tup [v, .str ""]) hz))⟩, hh.extN e3 (t1.ext s3), KX.ext e3⟩
  rintro _ H1 ⟨pz, u, rfl, hpz, hval, hh1, k1⟩
  refine ⟨pz, _, rfl, hpz, rfl, _, _, rfl, _, _, rfl, rfl, nx_go ?_⟩
  have t1 := k1.tkb (K := K) hh.box
  have hx1 := t1 _ _ hx
  have hQ1 := RowsP.tk t1 hQ
  have hy1 := t1 _ _ hy
  have hP1 := RowsP.tk t1 hP
  refine ⟨_, rfl, _, rfl, _, rfl, f, p, r, xs, ys, QS, PS, rfl, hf.nn, hx1, hQ1, hy1, hP1, by omega, fun qs hq => by have := cQ.wid qs hq; omega, by omega, fun qs hq => by have := cP.wid qs hq; omega, fun H2 s2 => ?_⟩
  have hh2 := hh1.same s2
  have k2 := k1.trans (KX.of s2)
  refine gName_go (nx_go ?_)
  refine ⟨_, rfl, _, rfl, rfl, _, rfl, ?_⟩
  rw [word_ne]
  refine iteF ⟨_, rfl, rfl, _, rfl, ?_⟩
  rcases beh_word (f := f) (QS := QS) (PS := PS) with ⟨ew, hs, hg⟩ | nw
  rotate_left
  · rw [decide_eq_false fun z => nw (V.str.inj z)]
    refine iteT ⟨_, rfl, _, rfl, rfl, ?_⟩
    rw [decide_eq_true rfl]
    exact q _ hh2 k2
  obtain ⟨T, U, eT, eU, ⟨tT, tU⟩, jT, jU, hJ⟩ := hval ew
  rw [ew, decide_eq_true rfl]
  refine iteF (nx_go ?_)
  have t2 := k2.tkb (K := K) hh.box
  have hx2 := t2 _ _ hx
  have hQ2 := RowsP.tk t2 hQ
  have hy2 := t2 _ _ hy
  have hP2 := RowsP.tk t2 hP
  obtain ⟨pj, us, rfl, hpj, hJr⟩ := hJ.tk (Tk.same (K := K) s2)
  refine tAsg_mid (fun x H' => x = .int (rlenQ PS : Nat) ∧ Same H2 H') ?_ fun rest => ?_
  rotate_left
  · refine ⟨_, rfl, (by show 0 ≤ sizeLine; decide), fun pz hz => ?_⟩
    have sz := same_new (o := .tup []) hz
    refine ⟨.tuple (PS.map colD), .tuple [], .tup (Same.seqT sz hy2) (hP2.same sz).dp, .tup (SqT.of upd_same) .nil, (lay_tab PS).shaped (by decide), by decide, ?_⟩
    rw [eqv_nilT]
    have hy4 := Same.seqT sz hy2
    have hP4 := hP2.same sz
    clear hval
    generalize upd H2 pz (.tup []) = H4 at *
    cases hP4 with
    | nil => exact ⟨_, rfl, iteF (rest _ _ ⟨rfl, sz⟩)⟩
    | cons g t =>
      obtain ⟨r1, us, rfl, hu, hn⟩ := g
      have lu := hn.lenQ
      refine ⟨_, rfl, iteT ⟨_, rfl, r, _, _, _, rfl, rfl, hy4, atI_nat (j := 0) rfl, r1, us, rfl, .inr hu, rest _ _ ⟨?_, sz⟩⟩⟩
      rw [lu]
      rfl
  rintro _ H3 ⟨rfl, s3⟩
  have hh3 := hh2.same s3
  have k3 := k2.trans (KX.of s3)
  have t3 := Tk.same (K := K) s3
  have hpj3 := t3 _ _ hpj
  have hJ3 := hJr.tk t3
  have w10 : rlenQ PS ≤ 10 := by
    unfold rlenQ
    cases PS with
    | nil => exact Nat.zero_le _
    | cons a b => exact cP.wid a (List.mem_cons_self ..)
  generalize rlenQ PS = w at *
  have tJ := join_tbl (w := w) (B := U) tT
  have lus := hJ3.len
  have lT : T.length = QS.length := by rw [← eT, List.length_map]
  have lU : U.length = PS.length := by rw [← eU, List.length_map]
  rw [tJ.len] at lus
  refine gName_go (nx_go ?_)
  refine ⟨_, rfl, _, _, _, _, true, rfl, .ty _, tyT hpj3, kit_ty (by decide +kernel), true, rfl, iteF (nx_go ?_)⟩
  refine ⟨_, rfl, pj, rfl, ⟨_, hpj3⟩, fun D hD => lc_tup (K := K) (a := pj) (xs := us) (fun i H' => Same H3 H' ∧ H' D = some (.lst (List.replicate i (V.bl true)))) ⟨same_new hD, upd_same⟩ (fun i H' _ ⟨s, _⟩ => Same.seqT s hpj3) ?_ ?_⟩
  · rintro i x H4 hi ⟨s, hz⟩
    obtain ⟨l1, e1, h1⟩ := (hJ3.same s).pickV hi
    have hil := (List.getElem?_eq_some_iff.mp hi).1
    obtain ⟨pr, vs, rfl, hpr, hn⟩ := id h1
    have lv := hn.len
    rw [List.length_map, tJ.wid l1 (List.mem_of_getElem? e1)] at lv
    refine ⟨rfl, tYes_of (iteT ⟨_, rfl, _, rfl, .ref pr, f, F, l1, rfl, hf, h1, _, rfl, iteT ⟨_, rfl, pr, vs, rfl, .inr hpr, _, rfl, rfl, ?_⟩⟩)⟩
    refine ⟨_, hz, by rw [List.length_replicate]; exact small1000 (by omega), same_seqT_upd s hD hz, ?_⟩
    rw [upd_same, List.replicate_succ', lv, decide_eq_true rfl]
  rintro H4 ⟨s4, hz⟩
  refine ⟨D, List.replicate us.length true, rfl, by rw [List.map_replicate]; exact SqL.of hz, ?_⟩
  have e : (List.replicate us.length true).all id = true := by simp
  rw [e]
  refine ⟨_, rfl, iteF (nx_go ?_)⟩
  have hh4 := hh3.same s4
  refine ⟨_, rfl, _, rfl, _, rfl, box, l, f, w, F, rfl, hh4.box, hf, by omega, fun H5 v ls st5 hv lls h99 => ?_⟩
  have hh5 := hh4.stp st5
  have k5 := (k3.trans (KX.of s4)).trans (KX.keep st5.keep)
  have t5 := (t3.trans (Tk.same (K := K) s4)).trans (Tk.stp (K := K) hh4.box st5)
  have hpj5 := t5 _ _ hpj
  have hJ5 := hJr.tk t5
  have hT5 : RTs K H5 F xs T := (RowsP.rts (by rw [eT]; exact hQ2) : RTs K H2 F xs T).tk t5
  have hU5 : RTs K H5 F ys U := (RowsP.rts (by rw [eU]; exact hP2) : RTs K H2 F ys U).tk t5
  have hx5 := t5 _ _ hx2
  have hy5 := t5 _ _ hy2
  obtain ⟨pv, vs, rfl, hpv, hvn⟩ := id hv
  have lvs := hvn.len
  rw [List.length_map] at lvs
  have jJ := join_htj tT tU (by omega) jT jU
  have hcH : Ht F 80 (vec ls) := (ht_99 hf h99).mono (by omega)
  have hUc := act_ht tU (by omega) jU hcH
  refine gName_go (nx1_go ?_)
  refine ⟨_, rfl, _, rfl, _, rfl, f, pj, pv, us, vs, (joinL T U w).map fun l => l.map F.enc, ls.map F.enc, rfl, hpj5, hJ5.pairs, hpv, hvn, by omega, by omega, fun qs hq => ?_, fun z => absurd hf z, fun _ z => ?_, fun _ _ z => by (rw [goods_enc, good_enc] at z; cases z), fun _ _ _ => ⟨F, joinL T U w, ls, hJ5, hvn, fun t ht => by rw [tJ.wid t ht, lls], fun t ht => ?_, fun H6 y s6 hy6 => ?_⟩⟩
  · obtain ⟨l1, hl1, rfl⟩ := List.mem_map.mp hq
    rw [List.length_map, tJ.wid l1 hl1]
    omega
  · have : lensQ ((joinL T U w).map fun l => l.map F.enc) (ls.map F.enc).length = true := lensQ_iff.mpr fun qs hq => by
      obtain ⟨l1, hl1, rfl⟩ := List.mem_map.mp hq
      rw [List.length_map, List.length_map, tJ.wid l1 hl1, lls]
    rw [this] at z
    cases z
  · exact dot_okW hf (row_htj jJ ht) hcH (by decide) (by decide) (by rw [tJ.wid t ht]; omega) (by rw [tJ.wid t ht]; omega) (by decide)
  have t6 := Tk.same (K := K) s6
  refine ⟨_, rfl, _, rfl, _, rfl, _, rfl, _, rfl, f, true, r, ys, .ref pv, F, U, ls, rfl, hf, t6 _ _ hy5, hU5.tk t6, hv.tk t6, by omega, fun l1 hl1 => dot_okW hf (row_htj jU hl1) hcH (by decide) (by decide) (by rw [tU.wid l1 hl1]; omega) (by rw [tU.wid l1 hl1]; omega) (by decide), fun H7 y7 s7 hy7 => ?_⟩
  have t7 := t6.trans (Tk.same (K := K) s7)
  have lAU : (actL U ls).length = U.length := actL_len
  refine ⟨f, true, p, xs, y7, F, T, actL U ls, rfl, hf, t7 _ _ hx5, hT5.tk t7, hy7, by omega, fun l1 hl1 => dot_okW hf (row_htj jT hl1) hUc (by decide) (by decide) (by rw [tT.wid l1 hl1]; omega) (by rw [tT.wid l1 hl1]; omega) (by decide), fun H8 y8 s8 hy8 => ?_⟩
  have e1 : ((joinL T U w).map fun t => dotN t ls t.length) = T.map fun l => dotN l (actL U ls) l.length := join_act tT tU
  have s68 := s7.trans s8
  rw [e1] at hy6
  refine ⟨rowD F (T.map fun l => dotN l (actL U ls) l.length), rowD F (T.map fun l => dotN l (actL U ls) l.length), (hy6.same s68).dp, hy8.dp, (lay_row _).shaped (by decide), (lay_row _).shaped (by decide), ?_⟩
  rw [eqv_self _ (lay_row _).1]
  exact q _ (((hh5.same s6).same s7).same s8) (((k5.trans (KX.of s6)).trans (KX.of s7)).trans (KX.of s8))
def spStillSo (K : PySem.W.Frag) : Sp := fun vs H Q _ => ∃ (box l : Addr) (f : Int) (n : Nat), vs = [.ref box, .int f, .int (n : Nat)] ∧ BoxAt H box l ∧ IsF f ∧ n ≤ 8 ∧ ∀ H', Stp box l H H' → Q (.bl true) H'
theorem len__law_still_so {K vs H Q E} (h : spStillSo K vs H Q E) : vs.length = 3 := by
  obtain ⟨box, l, f, n, rfl, _⟩ := h
  rfl
theorem d__law_still_so {P : Program} {w : World} {K : PySem.W.Frag} {mg : Str → Option Value} {base : Heap} (R : Raw K mg "_law_still_so" s__law_still_so) (B : Bn mg) (D__law_row : Def P w K mg base "_law_row" 4 ["_law_box", "_law_field_here", "_law_width"] (spLRow K)) (D__law_like : (∀ n, FnOk P w K mg base CX0 (n + 2) f__law_like fd__law_like ["_law_found", "_law_due"] (spLike K n)) ∧ mg "_law_like" = some (.ref f__law_like) ∧ PySem.W.keepIn K (.ref f__law_like) = true ∧ Binds K fd__law_like ["_law_found", "_law_due"] []) (D_still : DefX P w K mg base "still" 4 ["field", "room"] (spStillX K CW)) (D_lead : DefX P w K mg base "lead" 6 ["field", "table", "column"] (spLeadX K CW)) : Def P w K mg base "_law_still_so" 7 ["_law_box", "_law_field_here", "_law_room"] (spStillSo K) := by
  obtain ⟨f, fd, F, m⟩ := R
  obtain ⟨f__law_row, fd__law_row, G__law_row, m__law_row, k__law_row, b__law_row⟩ := D__law_row
  obtain ⟨f_still, fd_still, G_still, m_still, k_still, b_still⟩ := D_still
  obtain ⟨f_lead, fd_lead, G_lead, m_lead, k_lead, b_lead⟩ := D_lead
  refine ⟨f, fd, F.ok sc__law_still_so (fun vs H Q E h => ?_) (fun cdv A outer s H vs Q E hr h => ?_), m, F.kp, F.binds (ps := ["_law_box", "_law_field_here", "_law_room"]) fun _ _ _ _ _ _ us hl => match us, hl with | [_, _, _], _ => rfl⟩
  · exact len__law_still_so h

  · obtain ⟨box, l, f, n, rfl, hb, hf, n8, q⟩ := h
    have G__law_like := D__law_like.1 3
    have m__law_like := D__law_like.2.1
    have k__law_like := D__law_like.2.2.1
    have b__law_like := D__law_like.2.2.2
    obtain ⟨F⟩ := fd_ex hf
    letI := F.fld
    letI := F.dec
    refine ⟨_, (pss_cons (ps_set (i := 5) sc__law_still_so.nd rfl (Or.inl rfl) (pe_callTy call_tuple_of (by rfl) B.tuple (by decide +kernel) (pa_cons (pe_lc (own := [("_law_k", 3)]) (g := gName 3) (tt := tYes) rfl sc__law_still_so.nd (pi_range1 (by rfl) B.range (pa_cons (pv 2) pa_nil)) (blkOk_by (N := ["_law_box", "_law_field_here", "_law_room", "_law_k", "_law_at", "_law_due", "_law_column"]) (sc := defScope s__law_still_so) (by decide +kernel)) (fun _ _ _ _ _ => pg_name (i := 3) sc__law_still_so.nd rfl (Or.inr rfl)) (fun _ _ _ _ _ => pts_nil) (fun _ _ _ _ _ => (pe_callTy (show CallR _ (.type "tuple") (rTupOf K) from cr_tupOf) (by rfl) B.tuple (by decide +kernel) (pa_cons (pe_lc (own := [("_law_at", 4)]) (g := gName 4) (tt := tYes) rfl sc__law_still_so.nd (pi_range1 (by rfl) B.range (pa_cons (pv 2) pa_nil)) (blkOk_by (N := ["_law_box", "_law_field_here", "_law_room", "_law_k", "_law_at", "_law_due", "_law_column"]) (sc := { kind := PySem.ScopeKind.function, names := [ (PySem.Str.ofString ".0", PySem.NameKind.local), (PySem.Str.ofString "_law_k", PySem.NameKind.cell), (PySem.Str.ofString "tuple", PySem.NameKind.globalImplicit), (PySem.Str.ofString "range", PySem.NameKind.globalImplicit), (PySem.Str.ofString "_law_room", PySem.NameKind.cell)], isGenerator := false, isCoroutine := false, more := [] : PySem.Scope }) (by decide +kernel)) (fun _ _ _ _ _ => pg_name (i := 4) sc__law_still_so.nd rfl (Or.inl rfl)) (fun _ _ _ _ _ => pts_nil) (fun _ _ _ _ _ => (pe_tup (pa_cons (pe_callTy (show CallR _ (.type "int") rInt1 from call_int1) (by rfl) B.int (by decide +kernel) (pa_cons (pe_cmpR op_eq (pv 3) (pv 4) (nomark _)) pa_nil)) (pa_cons pe_int pa_nil))))) pa_nil)))) pa_nil))) (pss_cons (ps_set (i := 6) sc__law_still_so.nd rfl (Or.inl rfl) (pe_call G__law_row (hr.mono (by omega)) (by rfl) m__law_row k__law_row b__law_row .nil pass0 (pa_cons (pv 0) (pa_cons (pv 1) (pa_cons (pv 2) pa_nil))))) (pss_one (ps_ret (pe_and (pe_call G__law_like (hr.mono (by omega)) (by rfl) m__law_like k__law_like b__law_like .nil pass0 (pa_cons (pe_call G_still (hr.mono (by omega)) (by rfl) m_still k_still b_still .nil passL (pa_cons (pv 1) (pa_cons (pv 2) pa_nil))) (pa_cons (pv 5) pa_nil))) (pe_one (pe_cmpR (op_eqD hr.units) (pe_call G_lead (hr.mono (by omega)) (by rfl) m_lead k_lead b_lead .nil passL (pa_cons (pv 1) (pa_cons (pe_call G_still (hr.mono (by omega)) (by rfl) m_still k_still b_still .nil passL (pa_cons (pv 1) (pa_cons (pv 2) pa_nil))) (pa_cons (pv 6) pa_nil)))) (pv 6) (nomark _)))))))), ?_⟩
    refine tAsg_mid (fun x H' => ∃ (p : Addr) (xs : List V), x = .ref p ∧ SqT K H' p xs ∧ RTs K H' F xs (tblOf n n fun p => unL n p) ∧ Same H H') ?_ fun rest => ?_
    rotate_left
    · refine ⟨_, rfl, (n : Nat), rfl, by omega, by omega, fun D hD => ?_⟩
      refine lc_range (lo := 0) (n := ((n : Nat) : Int).toNat) (fun j H' => Same H H' ∧ ∃ zs, H' D = some (.lst zs) ∧ RTs K H' F zs ((tblOf n n fun p => unL n p).take j)) ⟨same_new hD, [], upd_same, .nil⟩ ?_ ?_
      · rintro j H2 hj ⟨s2, zs, hz, nz⟩
        have hjw : j < n := by omega
        have e0 : (0 : Int) + (j : Int) = ((j : Nat) : Int) := Int.zero_add _
        rw [e0]
        refine ⟨rfl, tYes_of (iteT ⟨_, rfl, (n : Nat), rfl, by omega, by omega, fun D2 hD2 => lc_range (lo := 0) (n := ((n : Nat) : Int).toNat) (fun i H' => Same H2 H' ∧ ∃ ws, H' D2 = some (.lst ws) ∧ NumsV K H' ws (((((List.range n).map fun p => vec (unL n p : List F.F) j)).take i).map F.enc)) ⟨same_new hD2, [], upd_same, .nil⟩ ?_ ?_⟩)⟩
        · rintro i H3 hi ⟨s3, ws, hw3, nw⟩
          have hiw : i < n := by omega
          have e1 : (0 : Int) + (i : Int) = ((i : Nat) : Int) := Int.zero_add _
          rw [e1]
          have ei : ((List.range n).map fun p => vec (unL n p : List F.F) j)[i]? = some (if j = i then 1 else 0) := by
            rw [List.getElem?_map, List.getElem?_range hiw]
            show some (vec (unL n i : List F.F) j) = _
            rw [unL_vec hjw]
            rfl
          refine ⟨rfl, _, rfl, _, rfl, rfl, .inr ⟨_, rfl, ?_⟩⟩
          refine ⟨by show 2 ≤ sizeLine; decide, fun p hp => ?_⟩
          have sp := same_new (o := .tup [.int (if decide (V.int (j : Int) = V.int (i : Int)) = true then 1 else 0), .int 1]) hp
          have lw := nw.len
          rw [List.length_map, List.length_take, List.length_map, List.length_range] at lw
          have hw4 := sp _ _ hw3
          refine ⟨ws, hw4, small1000 (by omega), same_seqT_upd (s3.trans sp) hD2 hw4, _, upd_same, ?_⟩
          rw [List.take_add_one, ei, List.map_append]
          refine NumsV.map (fun v q h => h.putL hw4) (NumsV.snoc (NumsV.same sp nw) ?_)
          refine ⟨p, rfl, ?_⟩
          have e2 : F.enc (if j = i then (1 : F.F) else 0) = ((if decide (V.int (j : Int) = V.int (i : Int)) = true then 1 else 0), 1) := by
            by_cases c : j = i
            · rw [if_pos c, if_pos (decide_eq_true (by rw [c])), F.one]
            · rw [if_neg c, if_neg (by rw [decide_eq_false fun z => c (by have := V.int.inj z; omega)]; exact Bool.false_ne_true), F.zero]
          rw [e2]
          exact SqT.of upd_same
        · rintro H3 ⟨s3, ws, hw3, nw⟩
          have lm : ((List.range n).map fun p => vec (unL n p : List F.F) j).length = n := by rw [List.length_map, List.length_range]
          rw [Int.toNat_natCast, List.take_of_length_le (by omega)] at nw
          refine ⟨D2, ws, rfl, .inl ⟨SqL.of hw3, fun p hp => ?_⟩⟩
          have sp := same_new (o := .tup ws) hp
          have s23 := s3.trans sp
          have hz3 := s23 _ _ hz
          have lz := nz.len
          rw [List.length_take, tblOf_tbl.len] at lz
          refine ⟨zs, hz3, small1000 (by omega), same_seqT_upd (s2.trans s23) hD hz3, zs ++ [.ref p], upd_same, ?_⟩
          rw [List.take_add_one, tblOf_get hjw]
          have tp := Tk.put (K := K) (o := .lst (zs ++ [.ref p])) hz3
          exact RTs.snoc (⟨p, ws, rfl, tp _ _ (SqT.of upd_same), NumsV.map (fun v q h => h.putL hz3) (NumsV.same sp nw)⟩) ((nz.same s23).tk tp)
      · rintro H2 ⟨s2, zs, hz, nz⟩
        rw [Int.toNat_natCast, List.take_of_length_le (by rw [tblOf_tbl.len]; omega)] at nz
        exact ⟨D, zs, rfl, .inl ⟨SqL.of hz, fun p hp => rest _ _ ⟨p, zs, rfl, SqT.of upd_same, nz.same (same_new hp), s2.trans (same_new hp)⟩⟩⟩
    rintro _ H1 ⟨p, xs, rfl, hp, hR, s1⟩
    refine gName_go (nx_go ?_)
    refine ⟨_, rfl, _, rfl, _, rfl, box, l, f, n, F, rfl, hb.same s1, hf, by omega, fun H2 v ls st2 hv lls h99 => ?_⟩
    have st12 : Stp box l H H2 := ⟨(Keep.of s1).trans st2.keep, st2.box⟩
    have k2 := Tk.stp (K := K) (hb.same s1) st2
    have hp2 := k2 _ _ hp
    have hR2 := hR.tk k2
    have tB : Tbl n n (tblOf n n fun p => unL n p : List (List F.F)) := tblOf_tbl
    have okT : okD 3 (.tuple ((tblOf n n fun p => unL n p : List (List F.F)).map (rowD F))) := by
      refine ⟨by rw [List.length_map, tB.len]; omega, fun d hd => ?_⟩
      obtain ⟨l1, hl1, rfl⟩ := List.mem_map.mp hd
      exact ok_row (by rw [tB.wid l1 hl1]; omega)
    refine gName_go (nx1_go ?_)
    refine ⟨_, rfl, _, rfl, f, n, rfl, by omega, fun z => absurd hf z, fun _ => ⟨F, fun H3 y s3 hy => ?_⟩⟩
    obtain ⟨py, us, rfl, hpy, hU⟩ := id hy
    refine ⟨_, rfl, _, _, _, rfl, .tup hpy hU.dp, .tup (Same.seqT s3 hp2) (hR2.same s3).dp, okT, fun H4 s4 => ⟨_, rfl, ?_⟩⟩
    refine ⟨_, rfl, _, rfl, _, rfl, f, n, rfl, by omega, fun z => absurd hf z, fun _ => ⟨F, fun H5 y5 s5 hy5 => ?_⟩⟩
    obtain ⟨p5, us5, rfl, hp5, hU5⟩ := hy5
    have s25 := (s3.trans s4).trans s5
    obtain ⟨pv, vs, rfl, hpv, hvn⟩ := id hv
    have lvs := hvn.len
    rw [List.length_map] at lvs
    have l5 := hU5.len
    rw [tB.len] at l5
    have hcH : Ht F 80 (vec ls) := (ht_99 hf h99).mono (by omega)
    have uH : ∀ t ∈ (tblOf n n fun p => unL n p : List (List F.F)), Ht F 60 (vec t) := fun t ht => by
      refine (ht_99 hf fun x hx => ?_).mono (by rw [tB.wid t ht]; omega)
      obtain ⟨i, hi, rfl⟩ := List.mem_map.mp ht
      obtain ⟨j, hj, rfl⟩ := List.mem_map.mp hx
      rw [unL_vec (List.mem_range.mp hi)]
      show S99 (F.enc (if i = j then 1 else 0))
      split
      · rw [F.one]
        exact ⟨by decide, by decide⟩
      · rw [F.zero]
        exact ⟨by decide, by decide⟩
    refine ⟨_, rfl, f, p5, pv, us5, vs, (tblOf n n fun p => unL n p : List (List F.F)).map fun l => l.map F.enc, ls.map F.enc, rfl, hp5, hU5.pairs, Same.seqT s25 hpv, NumsV.same s25 hvn, by omega, by omega, fun qs hq => ?_, fun z => absurd hf z, fun _ z => ?_, fun _ _ z => by (rw [goods_enc, good_enc] at z; cases z), fun _ _ _ => ⟨F, _, ls, hU5, NumsV.same s25 hvn, fun t ht => by rw [tB.wid t ht, lls], fun t ht => ?_, fun H6 y s6 hy6 => ?_⟩⟩
    · obtain ⟨l1, hl1, rfl⟩ := List.mem_map.mp hq
      rw [List.length_map, tB.wid l1 hl1]
      omega
    · have : lensQ ((tblOf n n fun p => unL n p : List (List F.F)).map fun l => l.map F.enc) (ls.map F.enc).length = true := lensQ_iff.mpr fun qs hq => by
        obtain ⟨l1, hl1, rfl⟩ := List.mem_map.mp hq
        rw [List.length_map, List.length_map, tB.wid l1 hl1, lls]
      rw [this] at z
      cases z
    · exact dot_okW hf (uH t ht) hcH (by decide) (by decide) (by rw [tB.wid t ht]; omega) (by rw [tB.wid t ht]; omega) (by decide)
    have e1 : ((tblOf n n fun p => unL n p : List (List F.F)).map fun t => dotN t ls t.length) = ls := act_unit lls
    rw [e1] at hy6
    refine ⟨_, rfl, rowD F ls, rowD F ls, hy6.dp, (hv.same (s25.trans s6)).dp, (lay_row _).shaped (by decide), (lay_row _).shaped (by decide), ?_⟩
    rw [eqv_self _ (lay_row _).1]
    exact q _ (((st12.same s3).same s4).same (s5.trans s6))

open Lin
set_option maxHeartbeats 1500000
theorem ne_same {K : PySem.W.Frag} {H : Hp} {x y : V} {d : PyData} {n : Nat} {Q : VK} (hx : Dp K H x d) (hy : Dp K H y d) (l : LayN n d) (k : n ≤ 64) (q : Q (.bl false) H) : rNeD K x y H Q :=
  ⟨d, d, hx, hy, l.shaped k, l.shaped k, by rw [eqv_self _ l.1]; exact q⟩
theorem dpAll_tk {K : PySem.W.Frag} {H H' : Hp} (t : Tk K H H') {f : Int} {F : Fd f} {vs : List V} {l : List F.F} (h : DpAll K H vs (l.map fun x => numD (F.enc x))) : DpAll K H' vs (l.map fun x => numD (F.enc x)) := by
  induction l generalizing vs with
  | nil => cases h; exact .nil
  | cons x l ih =>
    cases h with
    | cons g r =>
      refine .cons ?_ (ih r)
      cases g with
      | tup h1 h2 =>
        refine .tup (t _ _ h1) ?_
        cases h2 with
        | cons a b =>
          cases b with
          | cons c d =>
            cases a
            cases c
            cases d
            exact .cons (.int _) (.cons (.int _) .nil)
theorem lay3 : LayN 1 (.list [.str "badfield", .str "badfield", .str "badfield"]) := lay_list fun d hd => by
  simp only [List.mem_cons, List.not_mem_nil, or_false] at hd
  rcases hd with rfl | rfl | rfl <;> exact ⟨by decide +kernel, Nat.le_refl _⟩
theorem noF {o : Int} (h : isFB o = false) : ¬ IsF o := fun z => by
  rw [isFB_iff.mpr z] at h
  cases h
theorem law_ok {P : Program} {w : World} {K : PySem.W.Frag} {mg : Str → Option Value} {base : Heap} {f cL PT g : Addr} {CW : Addr × Addr} {oc oc2 kV doc pm ct kV2 doc2 pm2 cdv2 ct2 : Value} {od an od2 an2 : Option Addr} {osl osl2 : Array (Option Value)} {TL : List (Addr × Str)}
    (lk : K.lookup f = some ⟨oc, od, .func (PySem.W.fnOf "law" "law" (defArgs s_law) (defBody s_law) (defScope s_law) .none kV doc pm an (.ref cL) ct), osl⟩) (hcd : PySem.W.codeIn K (.ref cL) "law" = true) (TB : LamX.TabB base mg cL PT) (hTL : (PT, qLam) ∈ TL) (huL : ∀ p ∈ TL, p.1 = PT → p.2 = qLam) (B : Bn mg)
    (W : WhyAt K mg g oc2 od2 kV2 doc2 pm2 an2 cdv2 ct2 osl2) (mW : mg "WebError" = some (.ref CW.1)) (mM : mg "Missing" = some (.ref CW.2)) {f__law_like : Addr} {fd__law_like : FuncData} (D__law_open : Def P w K mg base "_law_open" 1 ["_law_script"] (spOpen K)) (D__law_field : Def P w K mg base "_law_field" 3 ["_law_box"] (spField)) (D__law_bent_table : Def P w K mg base "_law_bent_table" 4 ["_law_box", "_law_field_here", "_law_table_here"] (spBentTb K)) (D__law_row : Def P w K mg base "_law_row" 4 ["_law_box", "_law_field_here", "_law_width"] (spLRow K)) (D__law_lead_word : Def P w K mg base "_law_lead_word" 4 ["_law_field_here", "_law_table_here", "_law_column"] (spLeadW K)) (D__law_draw : Def P w K mg base "_law_draw" 1 ["_law_box", "_law_many"] (spDraw)) (D__law_table : Def P w K mg base "_law_table" 5 ["_law_box", "_law_field_here", "_law_room", "_law_wide"] (spLTab K)) (D__law_like : (∀ n, FnOk P w K mg base CX0 (n + 2) f__law_like fd__law_like ["_law_found", "_law_due"] (spLike K n)) ∧ mg "_law_like" = some (.ref f__law_like) ∧ PySem.W.keepIn K (.ref f__law_like) = true ∧ Binds K fd__law_like ["_law_found", "_law_due"] []) (D__law_behind_word : Def P w K mg base "_law_behind_word" 4 ["_law_field_here", "_law_table_here", "_law_other"] (spBehW K)) (D__law_why : True) (D__law_led : Def P w K mg base "_law_led" 5 ["_law_field_here", "_law_table_here", "_law_column"] (spLed K)) (D__law_behind_so : Def P w K mg base "_law_behind_so" 10 ["_law_box", "_law_field_here", "_law_table_here", "_law_other"] (spBehSo K TL)) (D__law_still_so : Def P w K mg base "_law_still_so" 7 ["_law_box", "_law_field_here", "_law_room"] (spStillSo K)) (D__law_odd_pair : Def P w K mg base "_law_odd_pair" 3 ["_law_box", "_law_field_here"] (spOdd K)) (D_still : DefX P w K mg base "still" 4 ["field", "room"] (spStillX K CW)) (D_lead : DefX P w K mg base "lead" 6 ["field", "table", "column"] (spLeadX K CW)) (D_behind : DefX P w K mg base "behind" 7 ["field", "table", "other"] (spBehindX K CW)) :
    FnOk P w K mg base CX0 13 f (PySem.W.fnOf "law" "law" (defArgs s_law) (defBody s_law) (defScope s_law) .none kV doc pm an (.ref cL) ct) ["_law_script"] (spLawT K TL) := by
  obtain ⟨f__law_open, fd__law_open, G__law_open, m__law_open, k__law_open, b__law_open⟩ := D__law_open
  obtain ⟨f__law_field, fd__law_field, G__law_field, m__law_field, k__law_field, b__law_field⟩ := D__law_field
  obtain ⟨f__law_bent_table, fd__law_bent_table, G__law_bent_table, m__law_bent_table, k__law_bent_table, b__law_bent_table⟩ := D__law_bent_table
  obtain ⟨f__law_row, fd__law_row, G__law_row, m__law_row, k__law_row, b__law_row⟩ := D__law_row
  obtain ⟨f__law_lead_word, fd__law_lead_word, G__law_lead_word, m__law_lead_word, k__law_lead_word, b__law_lead_word⟩ := D__law_lead_word
  obtain ⟨f__law_draw, fd__law_draw, G__law_draw, m__law_draw, k__law_draw, b__law_draw⟩ := D__law_draw
  obtain ⟨f__law_table, fd__law_table, G__law_table, m__law_table, k__law_table, b__law_table⟩ := D__law_table
  obtain ⟨f__law_behind_word, fd__law_behind_word, G__law_behind_word, m__law_behind_word, k__law_behind_word, b__law_behind_word⟩ := D__law_behind_word
  obtain ⟨f__law_led, fd__law_led, G__law_led, m__law_led, k__law_led, b__law_led⟩ := D__law_led
  obtain ⟨f__law_behind_so, fd__law_behind_so, G__law_behind_so, m__law_behind_so, k__law_behind_so, b__law_behind_so⟩ := D__law_behind_so
  obtain ⟨f__law_still_so, fd__law_still_so, G__law_still_so, m__law_still_so, k__law_still_so, b__law_still_so⟩ := D__law_still_so
  obtain ⟨f__law_odd_pair, fd__law_odd_pair, G__law_odd_pair, m__law_odd_pair, k__law_odd_pair, b__law_odd_pair⟩ := D__law_odd_pair
  obtain ⟨f_still, fd_still, G_still, m_still, k_still, b_still⟩ := D_still
  obtain ⟨f_lead, fd_lead, G_lead, m_lead, k_lead, b_lead⟩ := D_lead
  obtain ⟨f_behind, fd_behind, G_behind, m_behind, k_behind, b_behind⟩ := D_behind
  have G__law_like := D__law_like.1 3
  have m__law_like := D__law_like.2.1
  have k__law_like := D__law_like.2.2.1
  have b__law_like := D__law_like.2.2.2
  refine fn_of lk hcd sc_law (fun vs H Q E h => len_law h) (fun A outer s H vs Q E hr hsp => ?_)
  obtain ⟨a, ns, rfl, hS, hT, q⟩ := hsp
  suffices ∃ t, PSs (cxOf CX0 P w K mg base ["_law_script", "_law_box", "_law_turn", "_law_field_here", "_law_k", "_law_rooms", "_law_table_here", "_law_other", "_law_column", "_law_word", "_law_due", "_law_longer", "_law_words"] "law" (defScope s_law) f (.ref cL) A outer s H E).nox (defBody s_law) t ∧ t { nx := fun _ H' => Q .non H', rt := Q } (start ["_law_script", "_law_box", "_law_turn", "_law_field_here", "_law_k", "_law_rooms", "_law_table_here", "_law_other", "_law_column", "_law_word", "_law_due", "_law_longer", "_law_words"] [.ref a]) H by
    obtain ⟨t, h1, h2⟩ := this
    exact ⟨t, h1.nox, h2⟩
  refine ⟨_, (pss_cons (ps_set (i := 1) sc_law.nd rfl (Or.inr rfl) (pe_call G__law_open (hr.mono (by omega)) (by rfl) m__law_open k__law_open b__law_open .nil pass0 (pa_cons (pv 0) pa_nil))) (pss_cons (ps_for PassesOwn.never rfl (pi_range1 (by rfl) B.range (pa_cons pe_int pa_nil)) (pg_name (i := 2) sc_law.nd rfl (Or.inl rfl)) (pss_cons (ps_set (i := 3) sc_law.nd rfl (Or.inr rfl) (pe_call G__law_field (hr.mono (by omega)) (by rfl) m__law_field k__law_field b__law_field .nil pass0 (pa_cons (pv 1) pa_nil))) (pss_cons (ps_setLc (i := 5) (own := [("_law_k", 4)]) (g := gName 4) (tt := tYes) rfl sc_law.nd rfl rfl (sw_true rfl rfl rfl (by decide +kernel)) (pi_range1 (by rfl) B.range (pa_cons pe_int pa_nil)) (blkOk_by (N := ["_law_script", "_law_box", "_law_turn", "_law_field_here", "_law_k", "_law_rooms", "_law_table_here", "_law_other", "_law_column", "_law_word", "_law_due", "_law_longer", "_law_words"]) (sc := defScope s_law) (by decide +kernel)) (fun _ _ _ _ _ => pg_name (i := 4) sc_law.nd rfl (Or.inl rfl)) (fun _ _ _ _ _ => pts_nil) (fun _ _ _ _ _ => (pe_call G__law_draw (hr.mono (by omega)) (by rfl) m__law_draw k__law_draw b__law_draw .nil pass0 (pa_cons (pv 1) (pa_cons (pe_ix (show IxR _ (rIxL K) from ix_list) (pe_lst (pa_cons pe_int (pa_cons pe_int (pa_cons pe_int (pa_cons pe_int pa_nil))))) (pe_call G__law_draw (hr.mono (by omega)) (by rfl) m__law_draw k__law_draw b__law_draw .nil pass0 (pa_cons (pv 1) (pa_cons pe_int pa_nil))) (fun _ _ => rfl)) pa_nil))))) (pss_cons (ps_set (i := 6) sc_law.nd rfl (Or.inr rfl) (pe_call G__law_bent_table (hr.mono (by omega)) (by rfl) m__law_bent_table k__law_bent_table b__law_bent_table .nil pass0 (pa_cons (pv 1) (pa_cons (pv 3) (pa_cons (pe_call G__law_table (hr.mono (by omega)) (by rfl) m__law_table k__law_table b__law_table .nil pass0 (pa_cons (pv 1) (pa_cons (pv 3) (pa_cons (pe_ix ix_list (pv 5) pe_int (fun _ _ => rfl)) (pa_cons (pe_ix ix_list (pv 5) pe_int (fun _ _ => rfl)) pa_nil))))) pa_nil))))) (pss_cons (ps_set (i := 7) sc_law.nd rfl (Or.inl rfl) (pe_call G__law_bent_table (hr.mono (by omega)) (by rfl) m__law_bent_table k__law_bent_table b__law_bent_table .nil pass0 (pa_cons (pv 1) (pa_cons (pv 3) (pa_cons (pe_call G__law_table (hr.mono (by omega)) (by rfl) m__law_table k__law_table b__law_table .nil pass0 (pa_cons (pv 1) (pa_cons (pv 3) (pa_cons (pe_ix ix_list (pv 5) pe_int (fun _ _ => rfl)) (pa_cons (pe_ix ix_list (pv 5) pe_int (fun _ _ => rfl)) pa_nil))))) pa_nil))))) (pss_cons (ps_set (i := 8) sc_law.nd rfl (Or.inr rfl) (pe_call G__law_row (hr.mono (by omega)) (by rfl) m__law_row k__law_row b__law_row .nil pass0 (pa_cons (pv 1) (pa_cons (pv 3) (pa_cons (pe_ix ix_list (pv 5) pe_int (fun _ _ => rfl)) pa_nil))))) (pss_cons (ps_if (PW.pt (L2.pw_and (pt_cmpR (op_neD hr.units) (pv 8) (pe_tup pa_nil) (nomark _)) (pw_and1 (pt_cmpR op_eq (pe_call G__law_draw (hr.mono (by omega)) (by rfl) m__law_draw k__law_draw b__law_draw .nil pass0 (pa_cons (pv 1) (pa_cons pe_int pa_nil))) pe_int (nomark _))))) (pss_one (ps_set (i := 8) sc_law.nd rfl (Or.inr rfl) (pe_op (show OpR _ _ (rCatA K) from op_catA) (pe_slice (show SlR _ (rSlA K) from sl_tupA) (pv 8) (po_some pe_int) po_none) (pe_tup (pa_cons (pe_call G__law_odd_pair (hr.mono (by omega)) (by rfl) m__law_odd_pair k__law_odd_pair b__law_odd_pair .nil pass0 (pa_cons (pv 1) (pa_cons (pv 3) pa_nil))) pa_nil))))) pss_nil) (pss_cons (ps_set (i := 9) sc_law.nd rfl (Or.inl rfl) (pe_call G__law_lead_word (hr.mono (by omega)) (by rfl) m__law_lead_word k__law_lead_word b__law_lead_word .nil pass0 (pa_cons (pv 3) (pa_cons (pv 6) (pa_cons (pv 8) pa_nil))))) (pss_cons (ps_set (i := 10) sc_law.nd rfl (Or.inl rfl) (pe_tup (pa_cons (pe_ifExp (pt_cmpR op_eq (pv 9) pe_str (nomark _)) (pe_call G__law_led (hr.mono (by omega)) (by rfl) m__law_led k__law_led b__law_led .nil pass0 (pa_cons (pv 3) (pa_cons (pv 6) (pa_cons (pv 8) pa_nil)))) pe_non) (pa_cons (pv 9) pa_nil)))) (pss_cons (ps_if (pt_not (pt_val (pe_call G__law_like (hr.mono (by omega)) (by rfl) m__law_like k__law_like b__law_like .nil pass0 (pa_cons (LamX.pe_lamS (k := 6) (T := TL) (x := "_law_why") (by rfl) W.m W.k W.l W.c W.b sc__law_why rfl (Or.inl rfl) (why_asks rfl mW mM) TB rfl (by exact hTL) (fun p hp e => huL p hp e) (hr.mono (by omega)) (LamX.lamS_by (sc := defScope s_law) (by decide +kernel)) rfl (fun _ _ _ _ _ => rfl) (fun _ _ _ _ E _ _ hr => (pe_call G_lead (hr.mono (by omega)) (by rfl) m_lead k_lead b_lead .nil (passes_call (takes_of rfl rfl rfl rfl) (fun _ _ _ _ h => h)) (pa_cons (pv 3) (pa_cons (pv 6) (pa_cons (pv 8) pa_nil)))))) (pa_cons (pv 10) pa_nil))))) (pss_one (ps_ret pe_bl)) pss_nil) (pss_cons (ps_if (PW.pt (L2.pw_or (pt_not (pt_val (pe_call G__law_behind_so (hr.mono (by omega)) (by rfl) m__law_behind_so k__law_behind_so b__law_behind_so .nil pass0 (pa_cons (pv 1) (pa_cons (pv 3) (pa_cons (pv 6) (pa_cons (pv 7) pa_nil))))))) (pw_or1 (pt_not (pt_val (pe_call G__law_still_so (hr.mono (by omega)) (by rfl) m__law_still_so k__law_still_so b__law_still_so .nil pass0 (pa_cons (pv 1) (pa_cons (pv 3) (pa_cons (pe_ix ix_list (pv 5) pe_int (fun _ _ => rfl)) pa_nil))))))))) (pss_one (ps_ret pe_bl)) pss_nil) (pss_cons (ps_set (i := 11) sc_law.nd rfl (Or.inr rfl) (pe_op (show OpR _ _ (rCatA K) from op_catA) (pv 7) (pe_slice (show SlR _ (rSlA K) from sl_tupA) (pv 7) po_none (po_some pe_int)))) (pss_one (ps_if (pt_cmpR op_ne (pe_ix ix_tup (LamX.pe_lamS (k := 7) (T := TL) (x := "_law_why") (by rfl) W.m W.k W.l W.c W.b sc__law_why rfl (Or.inl rfl) (why_asks rfl mW mM) TB rfl (by exact hTL) (fun p hp e => huL p hp e) (hr.mono (by omega)) (LamX.lamS_by (sc := defScope s_law) (by decide +kernel)) rfl (fun _ _ _ _ _ => rfl) (fun _ _ _ _ E _ _ hr => (pe_call G_behind (hr.mono (by omega)) (by rfl) m_behind k_behind b_behind .nil (passes_call (takes_of rfl rfl rfl rfl) (fun _ _ _ _ h => h)) (pa_cons (pv 3) (pa_cons (pv 6) (pa_cons (pv 11) pa_nil)))))) pe_int (fun _ _ => rfl)) (pe_call G__law_behind_word (hr.mono (by omega)) (by rfl) m__law_behind_word k__law_behind_word b__law_behind_word .nil pass0 (pa_cons (pv 3) (pa_cons (pv 6) (pa_cons (pv 11) pa_nil)))) (nomark _)) (pss_one (ps_ret pe_bl)) pss_nil)))))))))))))) (pss_cons (ps_set (i := 12) sc_law.nd rfl (Or.inl rfl) (pe_lst (pa_cons (pe_ix ix_tup (LamX.pe_lamS (k := 5) (T := TL) (x := "_law_why") (by rfl) W.m W.k W.l W.c W.b sc__law_why rfl (Or.inl rfl) (why_asks rfl mW mM) TB rfl (by exact hTL) (fun p hp e => huL p hp e) (hr.mono (by omega)) (LamX.lamS_by (sc := defScope s_law) (by decide +kernel)) rfl (fun _ _ _ _ _ => rfl) (fun _ _ _ _ E _ _ hr => (pe_call G_still (hr.mono (by omega)) (by rfl) m_still k_still b_still .nil (passes_call (takes_of rfl rfl rfl rfl) (fun _ _ _ _ h => h)) (pa_cons pe_int (pa_cons pe_int pa_nil))))) pe_int (fun _ _ => rfl)) (pa_cons (pe_ix ix_tup (LamX.pe_lamS (k := 6) (T := TL) (x := "_law_why") (by rfl) W.m W.k W.l W.c W.b sc__law_why rfl (Or.inl rfl) (why_asks rfl mW mM) TB rfl (by exact hTL) (fun p hp e => huL p hp e) (hr.mono (by omega)) (LamX.lamS_by (sc := defScope s_law) (by decide +kernel)) rfl (fun _ _ _ _ _ => rfl) (fun _ _ _ _ E _ _ hr => (pe_call G_lead (hr.mono (by omega)) (by rfl) m_lead k_lead b_lead .nil (passes_call (takes_of rfl rfl rfl rfl) (fun _ _ _ _ h => h)) (pa_cons pe_int (pa_cons (pe_tup (pa_cons (pe_tup pa_nil) pa_nil)) (pa_cons (pe_tup (pa_cons (pe_tup (pa_cons pe_int (pa_cons pe_int pa_nil))) pa_nil)) pa_nil)))))) pe_int (fun _ _ => rfl)) (pa_cons (pe_ix ix_tup (LamX.pe_lamS (k := 7) (T := TL) (x := "_law_why") (by rfl) W.m W.k W.l W.c W.b sc__law_why rfl (Or.inl rfl) (why_asks rfl mW mM) TB rfl (by exact hTL) (fun p hp e => huL p hp e) (hr.mono (by omega)) (LamX.lamS_by (sc := defScope s_law) (by decide +kernel)) rfl (fun _ _ _ _ _ => rfl) (fun _ _ _ _ E _ _ hr => (pe_call G_behind (hr.mono (by omega)) (by rfl) m_behind k_behind b_behind .nil (passes_call (takes_of rfl rfl rfl rfl) (fun _ _ _ _ h => h)) (pa_cons pe_int (pa_cons (pe_tup (pa_cons (pe_tup (pa_cons (pe_tup (pa_cons pe_int (pa_cons pe_int pa_nil))) pa_nil)) pa_nil)) (pa_cons (pe_tup pa_nil) pa_nil)))))) pe_int (fun _ _ => rfl)) pa_nil))))) (pss_one (ps_ret (pe_cmpR (op_eqD hr.units) (pv 12) (pe_op op_rep (pe_lst (pa_cons pe_str pa_nil)) pe_int) (nomark _))))))), ?_⟩
  have tab0 : LamX.Tabs TL H := fun p hp => LamX.TabS.nil (hT p hp)
  refine ⟨_, rfl, a, ns, rfl, hS, fun H1 box l s1 hb1 => ?_⟩
  have hh1 : Here box l TL H1 := ⟨hb1, tab0.ext s1⟩
  refine gName_go (nx_go ?_)
  refine ⟨5, rfl, by decide, by decide, for_range (lo := 0) (n := (5 : Int).toNat) (fun i σ H' => Here box l TL H' ∧ ∃ z2 z3 z4 z5 z6 z7 z8 z9 z10 z11 z12, σ = [some (.ref a), some (.ref box), z2, z3, z4, z5, z6, z7, z8, z9, z10, z11, z12]) ⟨hh1, _, _, _, _, _, _, _, _, _, _, _, rfl⟩ ?_ ?_⟩
  · rintro i σ H2 hi ⟨hh2, z2, z3, z4, z5, z6, z7, z8, z9, z10, z11, z12, rfl⟩
    refine ⟨_, rfl, box, l, rfl, hh2.box, fun H3 f st3 hf => ?_⟩
    have hh3 := hh2.stp st3
    obtain ⟨F⟩ := fd_ex hf
    letI := F.fld
    letI := F.dec
    refine gName_go (nx_go ?_)
    refine ⟨3, rfl, by decide, by decide, fun D hD => ?_⟩
    have nb := hh3.box.ne hD
    have nl : D ≠ l := by
      obtain ⟨_, _, _, _, _, _, b2, _⟩ := hh3.box
      exact (ne_of_none b2 hD).symm
    refine lc_range (lo := 0) (n := (3 : Int).toNat) (fun i H' => Here box l TL H' ∧ ∃ ns : List Nat, H' D = some (.lst (ns.map fun n : Nat => V.int (n : Int))) ∧ ns.length = i ∧ ∀ n ∈ ns, n ≤ 8) ⟨hh3.same (same_new hD), [], upd_same, rfl, (fun x hx => by cases hx)⟩ ?_ ?_
    · rintro j H4 hj ⟨hh4, ns, hz, ln, h8⟩
      refine ⟨rfl, tYes_of (iteT ?_)⟩
      refine ⟨_, rfl, (by show 4 ≤ sizeLine; decide), fun ql hql => ?_⟩
      have rl := same_new (o := .lst [V.int 4, .int 4, .int 4, .int 9]) hql
      have hh5 := hh4.same rl
      have nql := hh4.box.ne hql
      have hz5 := rl _ _ hz
      have eql : (upd H4 ql (.lst [V.int 4, .int 4, .int 4, .int 9])) ql = some (.lst [V.int 4, .int 4, .int 4, .int 9]) := upd_same
      generalize upd H4 ql (.lst [V.int 4, .int 4, .int 4, .int 9]) = H5 at *
      refine ⟨_, rfl, box, l, _, rfl, hh5.box, by decide, by decide +kernel, fun H6 d st6 d0 d1 => ?_⟩
      have hh6 := hh5.stp st6
      obtain ⟨x, hat, hx9⟩ : ∃ x : Nat, atI [V.int 4, .int 4, .int 4, .int 9] d = some (.int (x : Nat)) ∧ 0 < x ∧ x ≤ 9 := by
        have : d = 0 ∨ d = 1 ∨ d = 2 ∨ d = 3 := by omega
        rcases this with rfl | rfl | rfl | rfl
        · exact ⟨4, rfl, by decide, by decide⟩
        · exact ⟨4, rfl, by decide, by decide⟩
        · exact ⟨4, rfl, by decide, by decide⟩
        · exact ⟨9, rfl, by decide, by decide⟩
      refine ⟨ql, _, d, _, rfl, rfl, SqL.of (st6.keep _ _ nql eql), hat, ?_⟩
      refine ⟨box, l, (x : Nat), rfl, hh6.box, by omega, log_s8 (by omega), fun H7 rm st7 rm0 rm1 => ?_⟩
      obtain ⟨n, rfl⟩ := Int.eq_ofNat_of_zero_le rm0
      have hz7 := st7.keep _ _ nb (st6.keep _ _ nb hz5)
      refine ⟨_, hz7, by rw [List.length_map]; exact small1000 (by omega), (hh6.stp st7).put hz7 nb nl, ns ++ [n], by rw [upd_same, List.map_append]; rfl, by rw [List.length_append, ln]; rfl, fun y hy => ?_⟩
      rcases List.mem_append.mp hy with hy | hy
      · exact h8 y hy
      · rw [List.mem_singleton.mp hy]
        omega
    rintro H4 ⟨hh4, ns, hz, ln, h8⟩
    obtain ⟨n0, n1, n2, rfl⟩ : ∃ n0 n1 n2, ns = [n0, n1, n2] := by
      match ns, ln with
      | [x, y, z], _ => exact ⟨x, y, z, rfl⟩
    have m0 := h8 n0 (by simp)
    have m1 := h8 n1 (by simp)
    have m2 := h8 n2 (by simp)
    clear h8 ln
    have hz : H4 D = some (.lst [.int (n0 : Nat), .int (n1 : Nat), .int (n2 : Nat)]) := hz
    refine gName_go (nx_go ?_)
    refine ⟨_, rfl, _, rfl, _, rfl, _, rfl, _, rfl, D, _, _, _, rfl, rfl, SqL.of hz, atI_nat (j := 0) rfl, _, rfl, D, _, _, _, rfl, rfl, SqL.of hz, atI_nat (j := 1) rfl, ?_⟩
    refine ⟨box, l, f, n0, n1, rfl, hh4.box, hf, by omega, by omega, fun H5 p5 xs5 QS5 st5 hp5 hR5 l5 h5 => ?_⟩
    have hh5 := hh4.stp st5
    have hz5 := st5.keep _ _ nb hz
    refine ⟨box, l, f, p5, xs5, QS5, rfl, hh5.box, hf, hp5, hR5, tab_start l5 h5 m0 m1, fun H6 p xs QS st6 hp hR cQ => ?_⟩
    have hh6 := hh5.stp st6
    have hz6 := st6.keep _ _ nb hz5
    clear hp5 hR5
    refine gName_go (nx_go ?_)
    refine ⟨_, rfl, _, rfl, _, rfl, _, rfl, _, rfl, D, _, _, _, rfl, rfl, SqL.of hz6, atI_nat (j := 1) rfl, _, rfl, D, _, _, _, rfl, rfl, SqL.of hz6, atI_nat (j := 2) rfl, ?_⟩
    refine ⟨box, l, f, n1, n2, rfl, hh6.box, hf, by omega, by omega, fun H7 p7 xs7 QS7 st7 hp7 hR7 l7 h7 => ?_⟩
    have hh7 := hh6.stp st7
    have k7 := Tk.stp (K := K) hh6.box st7
    refine ⟨box, l, f, p7, xs7, QS7, rfl, hh7.box, hf, hp7, hR7, tab_start l7 h7 m1 m2, fun H8 r ys PS st8 hr hP cP => ?_⟩
    have hh8 := hh7.stp st8
    have k8 := k7.trans (Tk.stp (K := K) hh7.box st8)
    have hz8 := st8.keep _ _ nb (st7.keep _ _ nb hz6)
    have hp8 := k8 _ _ hp
    have hR8 := RowsP.tk k8 hR
    clear hp7 hR7 k7 k8
    refine gName_go (nx_go ?_)
    refine ⟨_, rfl, _, rfl, _, rfl, D, _, _, _, rfl, rfl, SqL.of hz8, atI_nat (j := 1) rfl, ?_⟩
    refine ⟨box, l, f, n1, F, rfl, hh8.box, hf, by omega, fun H9 v ls st9 hv lls h99 => ?_⟩
    have hh9 := hh8.stp st9
    have k9 := Tk.stp (K := K) hh8.box st9
    have hz9 := st9.keep _ _ nb hz8
    have hp9 := k9 _ _ hp8
    have hR9 := RowsP.tk k9 hR8
    have hr9 := k9 _ _ hr
    have hP9 := RowsP.tk k9 hP
    obtain ⟨pc, us, rfl, hpc, hun⟩ := hv
    have lus := hun.len
    rw [List.length_map] at lus
    clear k9 hp8 hR8 hr hP hz8 hz6 hz5 hz hp hR st9 st8 st7 st6 st5
    refine gName_go (nx_go ?_)
    refine tIfS_join (fun σ' H' => ∃ (c : Addr) (vs : List V) (cq : List Pr), SqT K H' c vs ∧ NumsV K H' vs cq ∧ cq.length = n1 ∧ (∀ q ∈ cq, Sm 110 q) ∧ Here box l TL H' ∧ KX box H9 H' ∧ σ' = [some (.ref a), some (.ref box), some (.int (0 + (i : Int))), some (.int f), z4, some (.ref D), some (.ref p), some (.ref r), some (.ref c), z9, z10, z11, z12]) ?_ fun rest => ?_
    rotate_left
    · have same0 : ∀ H', Here box l TL H' → KX box H9 H' → _ := fun H' hh' k' => rest [some (.ref a), some (.ref box), some (.int (0 + (i : Int))), some (.int f), z4, some (.ref D), some (.ref p), some (.ref r), some (.ref pc), z9, z10, z11, z12] H' ⟨pc, us, ls.map F.enc, k'.tkb hh9.box _ _ hpc, hun.tk (k'.tkb hh9.box), by rw [List.length_map]; exact lls, fun q hq => by
        obtain ⟨x, hx, rfl⟩ := List.mem_map.mp hq
        exact (h99 x hx).sm.mono (by decide), hh', k', rfl⟩
      refine ⟨_, rfl, (by show 0 ≤ sizeLine; decide), fun pz hz => ?_⟩
      have sz := same_new (o := .tup []) hz
      refine ⟨.tuple ((ls.map F.enc).map numD), .tuple [], .tup (Same.seqT sz hpc) (dp_numsq (NumsV.same sz hun)), .tup (SqT.of upd_same) .nil, (lay_col _).shaped (by decide), by decide, ?_⟩
      rw [eqv_nilT]
      have hh10 := hh9.same sz
      have k10 := KX.of (D := box) sz
      generalize upd H9 pz (.tup []) = H10 at *
      refine ⟨_, rfl, ite2 (fun e => ?_) (fun _ => same0 _ hh10 k10)⟩
      have l0 : ls.length ≠ 0 := fun z => by rw [decide_eq_true (by rw [List.length_map]; exact z)] at e; cases e
      refine ⟨_, rfl, box, l, _, rfl, hh10.box, by decide, by decide +kernel, fun H11 d st11 _ _ => ?_⟩
      have hh11 := hh10.stp st11
      have k11 := k10.trans (KX.keep st11.keep)
      refine ⟨rfl, _, rfl, ite2 (fun _ => ?_) (fun _ => same0 _ hh11 k11)⟩
      have t11 := k11.tkb (K := K) hh9.box
      refine ⟨_, rfl, _, rfl, ?_⟩
      unfold tNoPart
      refine slA_go (t11 _ _ hpc) fun H12 p12 s12 h12 => ?_
      have h12 : SqT K H12 p12 (us.drop 1) := by
        have e := cutV_from us 1
        rw [← e]
        exact h12
      have hh12 := hh11.same s12
      refine ⟨_, rfl, _, rfl, box, l, f, rfl, hh12.box, hf.nn, f97 hf, fun H13 v13 q13 st13 hv13 sm13 => ?_⟩
      have k13 := Tk.stp (K := K) hh12.box st13
      refine ⟨(by show 1 ≤ sizeLine; decide), fun p14 h14 => ?_⟩
      have t14 := same_new (o := .tup [v13]) h14
      refine catA_go (Same.seqT t14 (k13 _ _ h12)) (SqT.of upd_same) (by rw [List.length_drop]; show us.length - 1 + 1 ≤ sizeLine; exact Nat.le_of_lt (small1000 (by omega))) fun H15 p15 s15 h15 => ?_
      have s1415 := t14.trans s15
      have kk := ((t11.trans (Tk.same (K := K) s12)).trans k13).trans (Tk.same (K := K) s1415)
      refine rest _ _ ⟨p15, _, (ls.map F.enc).drop 1 ++ [q13], h15, NumsV.app (NumsV.drop 1 (hun.tk kk)) (.cons (hv13.same s1415) .nil), ?_, fun q hq => ?_, (hh12.stp st13).same s1415, ((k11.trans (KX.of s12)).trans (KX.keep st13.keep)).trans (KX.of s1415), rfl⟩
      · rw [List.length_append, List.length_drop, List.length_map]
        show ls.length - 1 + 1 = n1
        omega
      · rcases List.mem_append.mp hq with hq | hq
        · obtain ⟨x, hx, rfl⟩ := List.mem_map.mp (List.mem_of_mem_drop hq)
          exact (h99 x hx).sm.mono (by decide)
        · rw [List.mem_singleton.mp hq]
          exact sm13
    rintro _ H10 ⟨c, vs, cq, hc, hcn, lc, smc, hh10, k10, rfl⟩
    have t10 := k10.tkb (K := K) hh9.box
    have hp10 := t10 _ _ hp9
    have hR10 := RowsP.tk t10 hR9
    have hr10 := t10 _ _ hr9
    have hP10 := RowsP.tk t10 hP9
    have hz10 := k10 _ _ nb hz9 (fun _ z => by cases z)
    clear hun hpc hp9 hR9 hr9 hP9 hz9 t10
    refine nx_go ?_
    refine ⟨_, rfl, _, rfl, _, rfl, f, p, c, xs, vs, QS, cq, rfl, hf.nn, hp10, hR10, hc, hcn, by have := cQ.len; omega, fun qs hq => by have := cQ.wid qs hq; omega, by omega, fun H11 s11 => ?_⟩
    have lq := hR10.len
    have l8 := cQ.len
    have lvs := hcn.lenQ
    have hh11 := hh10.same s11
    have t11 := Tk.same (K := K) s11
    have hp11 := t11 _ _ hp10
    have hR11 := RowsP.tk t11 hR10
    have hc11 := t11 _ _ hc
    have hcn11 := hcn.tk t11
    have lc_ht : ∀ m : List F.F, m.map F.enc = cq → Ht F 900 (vec m) := fun m hm => (ht_pairs hf (by rw [hm]; exact smc)).mono (by
      rw [hm]
      have := sum_le (qs := cq) (c := 110) fun q _ => cst_le q
      omega)
    have dots : ∀ (T : List (List F.F)) (m : List F.F), (T.map fun l => l.map F.enc) = QS → m.map F.enc = cq → lensQ QS cq.length = true → (∀ t ∈ T, t.length = m.length) ∧ ∀ t ∈ T, DotOk F t m := fun T m hT hm hs => by
      have lm : m.length = cq.length := by rw [← hm, List.length_map]
      have ht : ∀ t ∈ T, t.length = m.length := fun t ht => by
        have := lensQ_iff.mp hs (t.map F.enc) (by rw [← hT]; exact List.mem_map_of_mem (f := fun l => l.map F.enc) ht)
        rw [List.length_map] at this
        omega
      have jT := TabC.htj hf (F := F) (L := T) (by rw [hT]; exact cQ)
      exact ⟨ht, fun t h => dot_okW hf (row_htj jT h) (lc_ht m hm) (by decide) (by decide) (by rw [ht t h]; exact Nat.le_refl _) (by rw [ht t h]; omega) (by decide)⟩
    refine gName_go (nx_go (tAsg_mid (fun x H' => ∃ (pd : Addr) (u : V) (d : PyData), x = .ref pd ∧ SqT K H' pd [u, .str (leadWord f QS cq)] ∧ Dp K H' u d ∧ okD 2 d ∧ ((leadWord f QS cq ≠ "" ∧ d = .none) ∨ (leadWord f QS cq = "" ∧ ∃ (T : List (List F.F)) (m : List F.F), (T.map fun l => l.map F.enc) = QS ∧ m.map F.enc = cq ∧ lensQ QS cq.length = true ∧ (QS.all (goodAll f) && goodAll f cq) = true ∧ d = rowD F (actL T m))) ∧ Same H11 H') ?_ fun rest => ?_))
    rotate_left
    · refine ⟨_, rfl, rfl, _, rfl, ?_⟩
      by_cases ew : leadWord f QS cq = ""
      · have hs : lensQ QS cq.length = true := by
          unfold leadWord at ew
          cases h : lensQ QS cq.length with
          | true => rfl
          | false => rw [h, if_neg Bool.false_ne_true] at ew; exact absurd ew (by decide)
        have hg : (QS.all (goodAll f) && goodAll f cq) = true := by
          unfold leadWord at ew
          rw [hs, if_pos rfl] at ew
          cases h : (QS.all (goodAll f) && goodAll f cq) with
          | true => rfl
          | false => rw [h, if_neg Bool.false_ne_true] at ew; exact absurd ew (by decide)
        have hg' := hg
        rw [Bool.and_eq_true] at hg'
        obtain ⟨T, hT⟩ := goods_lift (F := F) hg'.1
        obtain ⟨m, hm⟩ := good_lift (F := F) hg'.2
        obtain ⟨d1, d2⟩ := dots T m hT hm hs
        have rT : RTs K H11 F xs T := RowsP.rts (by rw [hT]; exact hR11)
        have rm : RowT K H11 F (.ref c) m := ⟨c, vs, rfl, hc11, by rw [hm]; exact hcn11⟩
        rw [show decide (V.str (leadWord f QS cq) = V.str "") = true from decide_eq_true (by rw [ew])]
        refine iteT ⟨_, rfl, _, rfl, _, rfl, f, true, p, xs, .ref c, F, T, m, rfl, hf, hp11, rT, rm, by rw [← lq, rT.len] at l8; omega, d2, fun H12 v s12 hv => ?_⟩
        refine ⟨_, rfl, (by show 2 ≤ sizeLine; decide), fun pd hpd => ?_⟩
        have sp := same_new (o := .tup [v, .str (leadWord f QS cq)]) hpd
        exact rest _ _ ⟨pd, v, rowD F (actL T m), rfl, SqT.of upd_same, Dp.same sp hv.dp, ok_row (by rw [actL_len, ← rT.len]; omega), .inr ⟨ew, T, m, hT, hm, hs, hg, rfl⟩, s12.trans sp⟩
      · rw [decide_eq_false fun z => ew (V.str.inj z)]
        refine iteF ?_
        refine ⟨_, rfl, (by show 2 ≤ sizeLine; decide), fun pd hpd => ?_⟩
        have sp := same_new (o := .tup [.non, .str (leadWord f QS cq)]) hpd
        exact rest _ _ ⟨pd, .non, .none, rfl, SqT.of upd_same, .non, True.intro, .inl ⟨ew, rfl⟩, sp⟩
    rintro _ H12 ⟨pd, u, dd, rfl, hpd, hdp, hok, hcase, s12⟩
    have hh12 := hh11.same s12
    have t12 := t11.trans (Tk.same (K := K) s12)
    refine gName_go (nx_go ?_)
    refine if_go (not_go (b_go (call_go (tCons_mid (fun x H' => ∃ (pz : Addr) (v : V), x = .ref pz ∧ SqT K H' pz [v, .str (leadWord f QS cq)] ∧ Dp K H' v dd ∧ LamX.ExtN H12 H' ∧ LamX.Tabs TL H') ?_ fun rest => ?_))))
    rotate_left
    · refine ⟨hh12.tab, fun H13 e1 t1 E R' hE hR => ?_⟩
      have k13 := t12.trans (Tk.extN (K := K) e1)
      have bad : ∀ w, leadWord f QS cq = w → w ≠ "" → ∀ (C d : Addr) (H2 : Hp), ErrIs K CW C → Same H13 H2 → H2 d = some (.xd [("word", .str w)]) → E (.ref C) (some d) H2 := fun w ew nw C d H2 hC s2 hd => hE C d _ H2 hC hd fun pz hz => by
        have s3 := s2.trans (same_new (o := .tup [.non, .str w]) hz)
        have hdd : dd = .none := by
          rcases hcase with ⟨_, h⟩ | ⟨h, _⟩
          · exact h
          · exact absurd (ew.symm.trans h) nw
        exact rest _ _ ⟨pz, .non, rfl, by rw [ew]; exact SqT.of upd_same, by rw [hdd]; exact .non, e1.trans (LamX.ExtN.of s3), t1.ext s3⟩
      refine ⟨_, rfl, _, rfl, _, rfl, f, p, c, xs, vs, QS, cq, rfl, k13 _ _ hp10, RowsP.tk k13 hR10, k13 _ _ hc, hcn.tk k13, by omega, by omega, fun qs hq => by have := cQ.wid qs hq; omega, fun z => absurd hf z, fun _ hs => bad _ (by unfold leadWord; rw [hs]; rfl) (by decide), fun _ hs hg => bad _ (by unfold leadWord; rw [hs, hg]; rfl) (by decide), fun _ hs hg => ?_⟩
      have ew : leadWord f QS cq = "" := by unfold leadWord; rw [hs, hg]; rfl
      rcases hcase with ⟨h, _⟩ | ⟨_, T, m, hT, hm, _, _, hd⟩
      · exact absurd ew h
      obtain ⟨d1, d2⟩ := dots T m hT hm hs
      refine ⟨F, T, m, RowsP.rts (by rw [hT]; exact RowsP.tk k13 hR10), by rw [hm]; exact hcn.tk k13, d1, d2, fun H2 v s2 hv => hR v H2 fun pz hz => ?_⟩
      have sp := same_new (o := .tup [v, .str ""]) hz
      exact rest _ _ ⟨pz, v, rfl, by rw [ew]; exact SqT.of upd_same, by rw [hd]; exact Dp.same sp hv.dp, e1.trans (LamX.ExtN.of (s2.trans sp)), t1.ext (s2.trans sp)⟩
    rintro _ H13 ⟨pz, v, rfl, hpz, hv, e13, t13⟩
    have k13 := Tk.extN (K := K) e13
    have hh13 := hh12.extN e13 t13
    have hdp13 : Dp K H13 (.ref pd) (.tuple [dd, .str (leadWord f QS cq)]) := by
      refine .tup (k13 _ _ hpd) (.cons ?_ (.cons (.str _) .nil))
      rcases hcase with ⟨_, rfl⟩ | ⟨_, T, m, _, _, _, _, rfl⟩
      · cases hdp
        exact .non
      · cases hdp with
        | tup h1 h2 => exact .tup (k13 _ _ h1) (dpAll_tk k13 h2)
    refine ⟨_, rfl, .ref pz, .ref pd, .tuple [dd, .str (leadWord f QS cq)], rfl, .tup hpz (.cons hv (.cons (.str _) .nil)), hdp13, ⟨by show 2 ≤ 1000; decide, fun d hd => ?_⟩, fun H14 s14 => ?_⟩
    · rcases List.mem_cons.mp hd with rfl | hd
      · exact hok
      · rw [List.mem_singleton.mp hd]
        trivial
    refine ⟨_, rfl, iteF (nx_go ?_)⟩
    have hh14 := hh13.same s14
    have t14 := (t12.trans k13).trans (Tk.same (K := K) s14)
    have k14 : KX box H10 H14 := ((KX.of (s11.trans s12)).trans (KX.ext e13)).trans (KX.of s14)
    have hz14 := k14 _ _ nb hz10 (fun _ z => by cases z)
    have hp14 := t14 _ _ hp10
    have hR14 := RowsP.tk t14 hR10
    have hr14 := t14 _ _ hr10
    have hP14 := RowsP.tk t14 hP10
    clear hdp13 hv hpz hpd hdp hcase dots lc_ht hp11 hR11 hc11 hcn11 hc hcn
    refine ⟨_, rfl, _, rfl, _, rfl, _, rfl, box, l, f, p, r, xs, ys, QS, PS, rfl, hh14, hf, hp14, hR14, hr14, hP14, cQ, cP, fun H15 hh15 k15 => ⟨_, rfl, iteF ?_⟩⟩
    have hz15 := k15 _ _ nb hz14 (fun _ z => by cases z)
    have t15 := k15.tkb (K := K) hh14.box
    refine ⟨_, rfl, _, rfl, _, rfl, D, _, _, _, rfl, rfl, SqL.of hz15, atI_nat (j := 1) rfl, box, l, f, n1, rfl, hh15.box, hf, m1, fun H16 st16 => ⟨_, rfl, iteF (nx_go ?_)⟩⟩
    have hh16 := hh15.stp st16
    have t16 := t15.trans (Tk.stp (K := K) hh15.box st16)
    have hp16 := t16 _ _ hp14
    have hR16 := RowsP.tk t16 hR14
    have hr16 := t16 _ _ hr14
    have hP16 := RowsP.tk t16 hP14
    have lp := hP16.len
    have l8p := cP.len
    refine ⟨_, rfl, _, rfl, _, rfl, ?_⟩
    refine slA_go hr16 fun H17 p17 s17 h17 => ?_
    have h17 : SqT K H17 p17 (ys.take 1) := by
      have e := cutV_to ys 1
      rw [← e]
      exact h17
    refine catA_go (Same.seqT s17 hr16) h17 (by rw [List.length_take]; exact Nat.le_of_lt (small1000 (by omega))) fun H18 p18 s18 h18 => ?_
    have s1718 := s17.trans s18
    have hh18 := hh16.same s1718
    have hp18 := Same.seqT s1718 hp16
    have hR18 := hR16.same s1718
    have hL18 : RowsP K H18 (ys ++ ys.take 1) (PS ++ PS.take 1) := RowsP.app (hP16.same s1718) (RowsP.take 1 (hP16.same s1718))
    have cL : TabC (PS ++ PS.take 1) 9 10 1364 := (cP.app (cP.take 1)).mono (by omega) (Nat.le_refl _) (by omega)
    have lL := hL18.len
    have l9 := cL.len
    refine gName_go (nx1_go ?_)
    refine if_go (test_go (tOp_midL (fun x H' => x = .str (behWord f QS (PS ++ PS.take 1)) ∧ LamX.ExtN H18 H' ∧ LamX.Tabs TL H') ?_ fun rest => ?_))
    rotate_left
    · refine ⟨hh18.tab, fun H19 e1 t1 E R' hE hR => ?_⟩
      have k19 := Tk.extN (K := K) e1
      have bad : ∀ w, behWord f QS (PS ++ PS.take 1) = w → w ≠ "" → ∀ (C d : Addr) (H2 : Hp), ErrIs K CW C → Same H19 H2 → H2 d = some (.xd [("word", .str w)]) → E (.ref C) (some d) H2 := fun w ew nw C d H2 hC s2 hd => hE C d _ H2 hC hd fun pz hz => by
        have s3 := s2.trans (same_new (o := .tup [.non, .str w]) hz)
        exact ⟨pz, _, _, _, rfl, rfl, SqT.of upd_same, at1 _ _, rest _ _ ⟨by rw [ew], e1.trans (LamX.ExtN.of s3), t1.ext s3⟩⟩
      refine ⟨_, rfl, _, rfl, _, rfl, f, p, p18, xs, _, QS, PS ++ PS.take 1, rfl, k19 _ _ hp18, RowsP.tk k19 hR18, k19 _ _ h18, RowsP.tk k19 hL18, by omega, by omega, fun qs hq => by have := cQ.wid qs hq; omega, fun qs hq => by have := cL.wid qs hq; omega, fun z => absurd hf z, fun _ hs => bad _ (by unfold behWord; rw [hs]; rfl) (by decide), fun _ hs hg => bad _ (by unfold behWord; rw [hs, hg]; rfl) (by decide), fun _ hs hg => ?_⟩
      obtain ⟨T, U, eT, eU, tTU, hJ, _, _⟩ := beh_join hf F cQ cL (by decide) (by decide) (by decide) (by decide) hs hg
      refine ⟨F, T, U, RowsP.rts (by rw [eT]; exact RowsP.tk k19 hR18), RowsP.rts (by rw [eU]; exact RowsP.tk k19 hL18), tTU, hJ, fun H2 v s2 hv => hR v H2 fun pz hz => ?_⟩
      have s3 := s2.trans (same_new (o := .tup [v, .str ""]) hz)
      have ew : behWord f QS (PS ++ PS.take 1) = "" := by unfold behWord; rw [hs, hg]; rfl
      exact ⟨pz, _, _, _, rfl, rfl, SqT.of upd_same, at1 _ _, rest _ _ ⟨by rw [ew], e1.trans (LamX.ExtN.of s3), t1.ext s3⟩⟩
    rintro _ H19 ⟨rfl, e19, t19⟩
    have k19 := Tk.extN (K := K) e19
    have hh19 := hh18.extN e19 t19
    refine ⟨_, rfl, _, rfl, _, rfl, f, p, p18, xs, _, QS, PS ++ PS.take 1, rfl, hf.nn, k19 _ _ hp18, RowsP.tk k19 hR18, k19 _ _ h18, RowsP.tk k19 hL18, by omega, fun qs hq => by have := cQ.wid qs hq; omega, by omega, fun qs hq => by have := cL.wid qs hq; omega, fun H20 s20 => ?_⟩
    refine ⟨rfl, _, rfl, ?_⟩
    rw [word_ne]
    exact iteF ⟨hh19.same s20, _, _, _, _, _, _, _, _, _, _, _, rfl⟩
  · rintro σ H2 ⟨hh2, z2, z3, z4, z5, z6, z7, z8, z9, z10, z11, z12, rfl⟩
    refine nx_go ?_
    refine ⟨hh2.tab, fun H3 e1 t1 E R' hE hR => ?_⟩
    refine ⟨4, 2, rfl, by decide, fun _ => fun C dd H4 hC s4 hd => hE C dd _ H4 hC hd fun p1 hp1 => ?_, fun z => absurd z (noF (by decide))⟩
    have t4 := t1.ext (s4.trans (same_new (o := .tup [.non, .str "badfield"]) hp1))
    refine ⟨p1, _, _, _, rfl, rfl, SqT.of upd_same, at1 _ _, ?_⟩
    clear hE hR hC hd s4 e1 t1
    generalize upd H4 p1 (.tup [.non, .str "badfield"]) = H5 at *
    refine ⟨t4, fun H6 e1 t1 E R' hE hR => ?_⟩
    refine ⟨(by show 0 ≤ sizeLine; decide), fun q1 g1 => ⟨(by show 1 ≤ sizeLine; decide), fun q2 g2 => ⟨(by show 2 ≤ sizeLine; decide), fun q3 g3 => ⟨(by show 1 ≤ sizeLine; decide), fun q4 g4 => ?_⟩⟩⟩⟩
    have r1 := same_new (o := .tup []) g1
    have r2 := same_new (o := .tup [.ref q1]) g2
    have r3 := same_new (o := .tup [.int 0, .int 0]) g3
    have r4 := same_new (o := .tup [.ref q3]) g4
    refine ⟨6, q2, q4, [.ref q1], [.ref q3], [[]], [(0, 0)], rfl, Same.seqT (r3.trans r4) (SqT.of upd_same), .cons ⟨q1, [], rfl, Same.seqT ((r2.trans r3).trans r4) (SqT.of upd_same), .nil⟩ .nil, SqT.of upd_same, .cons ((NumV.new 0 0).same r4) .nil, (by show 1 ≤ 900; decide), (by show 1 ≤ 900; decide), (fun qs h => by simp at h; rw [h]; decide), fun _ => fun C dd H7 hC s7 hd => hE C dd _ H7 hC hd fun p7 hp7 => ?_, fun z => absurd z (noF (by decide)), fun z => absurd z (noF (by decide)), fun z => absurd z (noF (by decide))⟩
    have t7 := t1.ext ((((r1.trans r2).trans r3).trans r4).trans (s7.trans (same_new (o := .tup [.non, .str "badfield"]) hp7)))
    refine ⟨p7, _, _, _, rfl, rfl, SqT.of upd_same, at1 _ _, ?_⟩
    clear hE hR hC hd s7 e1 t1 r1 r2 r3 r4 g1 g2 g3 g4
    generalize upd H7 p7 (.tup [.non, .str "badfield"]) = H8 at *
    refine ⟨t7, fun H9 e1 t1 E R' hE hR => ?_⟩
    refine ⟨(by show 2 ≤ sizeLine; decide), fun q1 g1 => ⟨(by show 1 ≤ sizeLine; decide), fun q2 g2 => ⟨(by show 1 ≤ sizeLine; decide), fun q3 g3 => ⟨(by show 0 ≤ sizeLine; decide), fun q4 g4 => ?_⟩⟩⟩⟩
    have r1 := same_new (o := .tup [.int 0, .int 0]) g1
    have r2 := same_new (o := .tup [.ref q1]) g2
    have r3 := same_new (o := .tup [.ref q2]) g3
    have r4 := same_new (o := .tup []) g4
    refine ⟨1, q3, q4, [.ref q2], [], [[(0, 0)]], [], rfl, Same.seqT r4 (SqT.of upd_same), .cons ⟨q2, [.ref q1], rfl, Same.seqT (r3.trans r4) (SqT.of upd_same), .cons ((NumV.new 0 0).same ((r2.trans r3).trans r4)) .nil⟩ .nil, SqT.of upd_same, .nil, (by show 1 ≤ 900; decide), (by show 0 ≤ 900; decide), (fun qs h => by simp at h; rw [h]; decide), (fun qs h => by cases h), fun _ => fun C dd H10 hC s10 hd => hE C dd _ H10 hC hd fun p10 hp10 => ?_, fun z => absurd z (noF (by decide)), fun z => absurd z (noF (by decide)), fun z => absurd z (noF (by decide))⟩
    refine ⟨p10, _, _, _, rfl, rfl, SqT.of upd_same, at1 _ _, ?_⟩
    clear hE hR hC hd s10 e1 t1 r1 r2 r3 r4 g1 g2 g3 g4
    generalize upd H10 p10 (.tup [.non, .str "badfield"]) = H11 at *
    refine ⟨(by show 3 ≤ sizeLine; decide), fun pl hpl => gName_go (nx1_go ?_)⟩
    have el : (upd H11 pl (.lst [.str "badfield", .str "badfield", .str "badfield"])) pl = some (.lst [.str "badfield", .str "badfield", .str "badfield"]) := upd_same
    generalize upd H11 pl (.lst [.str "badfield", .str "badfield", .str "badfield"]) = H12 at *
    refine ⟨_, rfl, (by show 1 ≤ sizeLine; decide), fun pm hpm => ?_⟩
    have r1 := same_new (o := .lst [V.str "badfield"]) hpm
    have em : (upd H12 pm (.lst [V.str "badfield"])) pm = some (.lst [V.str "badfield"]) := upd_same
    have el := r1 _ _ el
    generalize upd H12 pm (.lst [V.str "badfield"]) = H13 at *
    refine ⟨pm, 3, [.str "badfield"], rfl, rfl, em, by decide, by decide, by decide, fun pn hpn => ?_⟩
    have r2 := same_new (o := .lst (List.replicate (3 : Int).toNat [V.str "badfield"]).flatten) hpn
    have three : ∀ {H : Hp}, DpAll K H [.str "badfield", .str "badfield", .str "badfield"] [.str "badfield", .str "badfield", .str "badfield"] := .cons (.str _) (.cons (.str _) (.cons (.str _) .nil))
    refine ⟨.list [.str "badfield", .str "badfield", .str "badfield"], .list [.str "badfield", .str "badfield", .str "badfield"], .lst (SqL.of (r2 _ _ el)) three, .lst (SqL.of upd_same) three, lay3.shaped (by decide), lay3.shaped (by decide), ?_⟩
    rw [eqv_self _ lay3.1]
    exact q _

theorem exm_of {K : PySem.W.Frag} {C S : Addr} {b : Bool} (h1 : PySem.W.subIn K (.ref S) (.type "BaseException") = some true) (h2 : PySem.W.isClsIn K S = true) (h3 : PySem.W.typeIn K (.ref S) = some (.type "type")) (h4 : PySem.W.subIn K (.ref C) (.ref S) = some b) : PySem.W.exmOne K (.ref C) (.ref S) = some b := by
  have e1 : (PySem.W.subIn K (.ref S) (.type "BaseException") == some true) = true := by
    rw [h1]
    rfl
  have e2 : ((PySem.W.clsIn K S).isSome && PySem.W.typeIn K (.ref S) == some (.type "type")) = true := by
    have h2 : (PySem.W.clsIn K S).isSome = true := h2
    rw [h2, h3]
    rfl
  unfold PySem.W.exmOne
  rw [if_pos e1]
  unfold PySem.W.kitCls
  first
    | exact h4
    | (rw [if_pos e2]; exact h4)
    | (simp only [e2, if_true]; exact h4)
    | (dsimp only; rw [if_pos e2]; exact h4)
theorem over_of {K : PySem.W.Frag} {nm q : Str} {C N : Addr} {bs bm : List Value} {sn : List Str} {sub : List Value} {ab : Bool} {col : Option Bool} {dd : Option Addr} {k0 k1 k2 k3 k5 : Option Value} {id : String} (hC : K.lookup C = some (excClassObj nm q C N bs bm true sn sub ab col dd k0 k1 k2 k3 k5 id)) (ht : PySem.W.excTail leMro bm = true) : PySem.W.excOver K C leMro = true := by
  have hcl : PySem.W.clsIn K C = some { name := nm, bases := bs, mro := .ref C :: bm, ns := N, qualname := q, hasDict := true, slotNames := sn, subclasses := sub, abstract := ab, collection := col, hasDel := false } := by unfold PySem.W.clsIn; rw [hC] <;> rfl
  unfold PySem.W.excOver
  rw [hcl]
  show (C == C && PySem.W.excTail leMro bm) = true
  rw [ht, Bool.and_true]
  exact beq_self_eq_true C
theorem all_mk {l : PySem.W.OpenLaw} {w : World} {K : PySem.W.Frag} {h : Heap} {mg : Str → Option Value} {fa : Addr} (X : K.In h) (G : h.Ns mainGlobals mg) (hfa : mg "law" = some (.ref fa)) (OT : LamX.OwnTabs K mg ["law", "_law_behind_so"] h)
    {CW CM : Addr}
    {f__law_open : Addr} {od__law_open an__law_open : Option Addr} {sl__law_open : Array (Option Value)} {oc__law_open kV__law_open dc__law_open pm__law_open cd__law_open ct__law_open : Value}
    {f__law_draw : Addr} {od__law_draw an__law_draw : Option Addr} {sl__law_draw : Array (Option Value)} {oc__law_draw kV__law_draw dc__law_draw pm__law_draw cd__law_draw ct__law_draw : Value}
    {f__law_any : Addr} {od__law_any an__law_any : Option Addr} {sl__law_any : Array (Option Value)} {oc__law_any kV__law_any dc__law_any pm__law_any cd__law_any ct__law_any : Value}
    {f__law_primes : Addr} {od__law_primes an__law_primes : Option Addr} {sl__law_primes : Array (Option Value)} {oc__law_primes kV__law_primes dc__law_primes pm__law_primes cd__law_primes ct__law_primes : Value}
    {f__law_field : Addr} {od__law_field an__law_field : Option Addr} {sl__law_field : Array (Option Value)} {oc__law_field kV__law_field dc__law_field pm__law_field cd__law_field ct__law_field : Value}
    {f__law_odd_pair : Addr} {od__law_odd_pair an__law_odd_pair : Option Addr} {sl__law_odd_pair : Array (Option Value)} {oc__law_odd_pair kV__law_odd_pair dc__law_odd_pair pm__law_odd_pair cd__law_odd_pair ct__law_odd_pair : Value}
    {f__law_bent_table : Addr} {od__law_bent_table an__law_bent_table : Option Addr} {sl__law_bent_table : Array (Option Value)} {oc__law_bent_table kV__law_bent_table dc__law_bent_table pm__law_bent_table cd__law_bent_table ct__law_bent_table : Value}
    {f__law_gcd : Addr} {od__law_gcd an__law_gcd : Option Addr} {sl__law_gcd : Array (Option Value)} {oc__law_gcd kV__law_gcd dc__law_gcd pm__law_gcd cd__law_gcd ct__law_gcd : Value}
    {f__law_num : Addr} {od__law_num an__law_num : Option Addr} {sl__law_num : Array (Option Value)} {oc__law_num kV__law_num dc__law_num pm__law_num cd__law_num ct__law_num : Value}
    {f__law_number : Addr} {od__law_number an__law_number : Option Addr} {sl__law_number : Array (Option Value)} {oc__law_number kV__law_number dc__law_number pm__law_number cd__law_number ct__law_number : Value}
    {f__law_row : Addr} {od__law_row an__law_row : Option Addr} {sl__law_row : Array (Option Value)} {oc__law_row kV__law_row dc__law_row pm__law_row cd__law_row ct__law_row : Value}
    {f__law_is_number : Addr} {od__law_is_number an__law_is_number : Option Addr} {sl__law_is_number : Array (Option Value)} {oc__law_is_number kV__law_is_number dc__law_is_number pm__law_is_number cd__law_is_number ct__law_is_number : Value}
    {f__law_numbers_good : Addr} {od__law_numbers_good an__law_numbers_good : Option Addr} {sl__law_numbers_good : Array (Option Value)} {oc__law_numbers_good kV__law_numbers_good dc__law_numbers_good pm__law_numbers_good cd__law_numbers_good ct__law_numbers_good : Value}
    {f__law_lead_word : Addr} {od__law_lead_word an__law_lead_word : Option Addr} {sl__law_lead_word : Array (Option Value)} {oc__law_lead_word kV__law_lead_word dc__law_lead_word pm__law_lead_word cd__law_lead_word ct__law_lead_word : Value}
    {f__law_table : Addr} {od__law_table an__law_table : Option Addr} {sl__law_table : Array (Option Value)} {oc__law_table kV__law_table dc__law_table pm__law_table cd__law_table ct__law_table : Value}
    {f__law_int : Addr} {od__law_int an__law_int : Option Addr} {sl__law_int : Array (Option Value)} {oc__law_int kV__law_int dc__law_int pm__law_int cd__law_int ct__law_int : Value}
    {f__law_like : Addr} {od__law_like an__law_like : Option Addr} {sl__law_like : Array (Option Value)} {oc__law_like kV__law_like dc__law_like pm__law_like cd__law_like ct__law_like : Value}
    {f__law_behind_word : Addr} {od__law_behind_word an__law_behind_word : Option Addr} {sl__law_behind_word : Array (Option Value)} {oc__law_behind_word kV__law_behind_word dc__law_behind_word pm__law_behind_word cd__law_behind_word ct__law_behind_word : Value}
    {f__law_why : Addr} {od__law_why an__law_why : Option Addr} {sl__law_why : Array (Option Value)} {oc__law_why kV__law_why dc__law_why pm__law_why cd__law_why ct__law_why : Value}
    {f__law_plus : Addr} {od__law_plus an__law_plus : Option Addr} {sl__law_plus : Array (Option Value)} {oc__law_plus kV__law_plus dc__law_plus pm__law_plus cd__law_plus ct__law_plus : Value}
    {f__law_times : Addr} {od__law_times an__law_times : Option Addr} {sl__law_times : Array (Option Value)} {oc__law_times kV__law_times dc__law_times pm__law_times cd__law_times ct__law_times : Value}
    {f__law_dot : Addr} {od__law_dot an__law_dot : Option Addr} {sl__law_dot : Array (Option Value)} {oc__law_dot kV__law_dot dc__law_dot pm__law_dot cd__law_dot ct__law_dot : Value}
    {f__law_led : Addr} {od__law_led an__law_led : Option Addr} {sl__law_led : Array (Option Value)} {oc__law_led kV__law_led dc__law_led pm__law_led cd__law_led ct__law_led : Value}
    {f_is_field : Addr} {od_is_field an_is_field : Option Addr} {sl_is_field : Array (Option Value)} {oc_is_field kV_is_field dc_is_field pm_is_field cd_is_field ct_is_field : Value}
    {f_check_field : Addr} {od_check_field an_check_field : Option Addr} {sl_check_field : Array (Option Value)} {oc_check_field kV_check_field dc_check_field pm_check_field cd_check_field ct_check_field : Value}
    {f_check_lengths : Addr} {od_check_lengths an_check_lengths : Option Addr} {sl_check_lengths : Array (Option Value)} {oc_check_lengths kV_check_lengths dc_check_lengths pm_check_lengths cd_check_lengths ct_check_lengths : Value}
    {f_fits : Addr} {od_fits an_fits : Option Addr} {sl_fits : Array (Option Value)} {oc_fits kV_fits dc_fits pm_fits cd_fits ct_fits : Value}
    {f_check_numbers : Addr} {od_check_numbers an_check_numbers : Option Addr} {sl_check_numbers : Array (Option Value)} {oc_check_numbers kV_check_numbers dc_check_numbers pm_check_numbers cd_check_numbers ct_check_numbers : Value}
    {f_check_row_numbers : Addr} {od_check_row_numbers an_check_row_numbers : Option Addr} {sl_check_row_numbers : Array (Option Value)} {oc_check_row_numbers kV_check_row_numbers dc_check_row_numbers pm_check_row_numbers cd_check_row_numbers ct_check_row_numbers : Value}
    {f_added : Addr} {od_added an_added : Option Addr} {sl_added : Array (Option Value)} {oc_added kV_added dc_added pm_added cd_added ct_added : Value}
    {f_inverse : Addr} {od_inverse an_inverse : Option Addr} {sl_inverse : Array (Option Value)} {oc_inverse kV_inverse dc_inverse pm_inverse cd_inverse ct_inverse : Value}
    {f_lowest : Addr} {od_lowest an_lowest : Option Addr} {sl_lowest : Array (Option Value)} {oc_lowest kV_lowest dc_lowest pm_lowest cd_lowest ct_lowest : Value}
    {f_multiplied : Addr} {od_multiplied an_multiplied : Option Addr} {sl_multiplied : Array (Option Value)} {oc_multiplied kV_multiplied dc_multiplied pm_multiplied cd_multiplied ct_multiplied : Value}
    {f_paired : Addr} {od_paired an_paired : Option Addr} {sl_paired : Array (Option Value)} {oc_paired kV_paired dc_paired pm_paired cd_paired ct_paired : Value}
    {f_led : Addr} {od_led an_led : Option Addr} {sl_led : Array (Option Value)} {oc_led kV_led dc_led pm_led cd_led ct_led : Value}
    {f_lead : Addr} {od_lead an_lead : Option Addr} {sl_lead : Array (Option Value)} {oc_lead kV_lead dc_lead pm_lead cd_lead ct_lead : Value}
    {f_turned : Addr} {od_turned an_turned : Option Addr} {sl_turned : Array (Option Value)} {oc_turned kV_turned dc_turned pm_turned cd_turned ct_turned : Value}
    {f_joined : Addr} {od_joined an_joined : Option Addr} {sl_joined : Array (Option Value)} {oc_joined kV_joined dc_joined pm_joined cd_joined ct_joined : Value}
    {f_row_length : Addr} {od_row_length an_row_length : Option Addr} {sl_row_length : Array (Option Value)} {oc_row_length kV_row_length dc_row_length pm_row_length cd_row_length ct_row_length : Value}
    {f_behind : Addr} {od_behind an_behind : Option Addr} {sl_behind : Array (Option Value)} {oc_behind kV_behind dc_behind pm_behind cd_behind ct_behind : Value}
    {f__law_numbers : Addr} {od__law_numbers an__law_numbers : Option Addr} {sl__law_numbers : Array (Option Value)} {oc__law_numbers kV__law_numbers dc__law_numbers pm__law_numbers cd__law_numbers ct__law_numbers : Value}
    {f__law_behind_so : Addr} {od__law_behind_so an__law_behind_so : Option Addr} {sl__law_behind_so : Array (Option Value)} {oc__law_behind_so kV__law_behind_so dc__law_behind_so pm__law_behind_so ct__law_behind_so : Value}
    {f_still_table : Addr} {od_still_table an_still_table : Option Addr} {sl_still_table : Array (Option Value)} {oc_still_table kV_still_table dc_still_table pm_still_table cd_still_table ct_still_table : Value}
    {f_still : Addr} {od_still an_still : Option Addr} {sl_still : Array (Option Value)} {oc_still kV_still dc_still pm_still cd_still ct_still : Value}
    {f__law_still_so : Addr} {od__law_still_so an__law_still_so : Option Addr} {sl__law_still_so : Array (Option Value)} {oc__law_still_so kV__law_still_so dc__law_still_so pm__law_still_so cd__law_still_so ct__law_still_so : Value}
    {f_law : Addr} {od_law an_law : Option Addr} {sl_law : Array (Option Value)} {oc_law kV_law dc_law pm_law ct_law : Value}
    {aFIELDS : Addr} {odFIELDS : Option Addr} {itsFIELDS : Array Value} {nFIELDS : Nat} {slFIELDS : Array (Option Value)}
    {aNOUGHT : Addr} {odNOUGHT : Option Addr} {itsNOUGHT : Array Value} {nNOUGHT : Nat} {slNOUGHT : Array (Option Value)}
    {aONE : Addr} {odONE : Option Addr} {itsONE : Array Value} {nONE : Nat} {slONE : Array (Option Value)}
    {cL PT : Addr} {ddL : Option Addr} {vsL : Array Value} {slL : Array (Option Value)} {fileL : Str} {tfL tgL ttL : Tok} {flagsL textL : Int} {inFL : Bool}
    {cL__law_behind_so PT__law_behind_so : Addr} {ddL__law_behind_so : Option Addr} {vsL__law_behind_so : Array Value} {slL__law_behind_so : Array (Option Value)} {fileL__law_behind_so : Str} {tfL__law_behind_so tgL__law_behind_so ttL__law_behind_so : Tok} {flagsL__law_behind_so textL__law_behind_so : Int} {inFL__law_behind_so : Bool}
    {fI : Addr} {ocI dVI kVI dcI pmI cdI ctI : Value} {odI anI : Option Addr} {slI : Array (Option Value)}
    {C_BadField N_BadField : Addr} {nm_BadField q_BadField n2_BadField : Str} {tk_BadField : Tok} {bs_BadField bm_BadField sub_BadField : List Value} {sn_BadField : List Str} {ab_BadField : Bool} {col_BadField : Option Bool} {dd_BadField : Option Addr} {k0_BadField k1_BadField k3_BadField k5_BadField : Option Value}
    {C_BadNumber N_BadNumber : Addr} {nm_BadNumber q_BadNumber n2_BadNumber : Str} {tk_BadNumber : Tok} {bs_BadNumber bm_BadNumber sub_BadNumber : List Value} {sn_BadNumber : List Str} {ab_BadNumber : Bool} {col_BadNumber : Option Bool} {dd_BadNumber : Option Addr} {k0_BadNumber k1_BadNumber k3_BadNumber k5_BadNumber : Option Value}
    {C_BadShape N_BadShape : Addr} {nm_BadShape q_BadShape n2_BadShape : Str} {tk_BadShape : Tok} {bs_BadShape bm_BadShape sub_BadShape : List Value} {sn_BadShape : List Str} {ab_BadShape : Bool} {col_BadShape : Option Bool} {dd_BadShape : Option Addr} {k0_BadShape k1_BadShape k3_BadShape k5_BadShape : Option Value}
    (a_WebError : PySem.W.nsIn K mainGlobals "WebError" = some (some (.ref CW))) (a_Missing : PySem.W.nsIn K mainGlobals "Missing" = some (some (.ref CM))) (s_W : PySem.W.subIn K (.ref CW) (.type "BaseException") = some true) (i_W : PySem.W.isClsIn K CW = true) (y_W : PySem.W.typeIn K (.ref CW) = some (.type "type")) (s_M : PySem.W.subIn K (.ref CM) (.type "BaseException") = some true) (i_M : PySem.W.isClsIn K CM = true) (y_M : PySem.W.typeIn K (.ref CM) = some (.type "type"))
    (a__law_open : PySem.W.nsIn K mainGlobals "_law_open" = some (some (.ref f__law_open))) (l__law_open : K.lookup f__law_open = some ⟨oc__law_open, od__law_open, .func (PySem.W.fnOf "_law_open" "_law_open" (defArgs s__law_open) (defBody s__law_open) (defScope s__law_open) .none kV__law_open dc__law_open pm__law_open an__law_open cd__law_open ct__law_open), sl__law_open⟩) (c__law_open : PySem.W.codeIn K cd__law_open "_law_open" = true) (k__law_open : PySem.W.keepIn K (.ref f__law_open) = true)
    (a__law_draw : PySem.W.nsIn K mainGlobals "_law_draw" = some (some (.ref f__law_draw))) (l__law_draw : K.lookup f__law_draw = some ⟨oc__law_draw, od__law_draw, .func (PySem.W.fnOf "_law_draw" "_law_draw" (defArgs s__law_draw) (defBody s__law_draw) (defScope s__law_draw) .none kV__law_draw dc__law_draw pm__law_draw an__law_draw cd__law_draw ct__law_draw), sl__law_draw⟩) (c__law_draw : PySem.W.codeIn K cd__law_draw "_law_draw" = true) (k__law_draw : PySem.W.keepIn K (.ref f__law_draw) = true)
    (a__law_any : PySem.W.nsIn K mainGlobals "_law_any" = some (some (.ref f__law_any))) (l__law_any : K.lookup f__law_any = some ⟨oc__law_any, od__law_any, .func (PySem.W.fnOf "_law_any" "_law_any" (defArgs s__law_any) (defBody s__law_any) (defScope s__law_any) .none kV__law_any dc__law_any pm__law_any an__law_any cd__law_any ct__law_any), sl__law_any⟩) (c__law_any : PySem.W.codeIn K cd__law_any "_law_any" = true) (k__law_any : PySem.W.keepIn K (.ref f__law_any) = true)
    (a__law_primes : PySem.W.nsIn K mainGlobals "_law_primes" = some (some (.ref f__law_primes))) (l__law_primes : K.lookup f__law_primes = some ⟨oc__law_primes, od__law_primes, .func (PySem.W.fnOf "_law_primes" "_law_primes" (defArgs s__law_primes) (defBody s__law_primes) (defScope s__law_primes) .none kV__law_primes dc__law_primes pm__law_primes an__law_primes cd__law_primes ct__law_primes), sl__law_primes⟩) (c__law_primes : PySem.W.codeIn K cd__law_primes "_law_primes" = true) (k__law_primes : PySem.W.keepIn K (.ref f__law_primes) = true)
    (a__law_field : PySem.W.nsIn K mainGlobals "_law_field" = some (some (.ref f__law_field))) (l__law_field : K.lookup f__law_field = some ⟨oc__law_field, od__law_field, .func (PySem.W.fnOf "_law_field" "_law_field" (defArgs s__law_field) (defBody s__law_field) (defScope s__law_field) .none kV__law_field dc__law_field pm__law_field an__law_field cd__law_field ct__law_field), sl__law_field⟩) (c__law_field : PySem.W.codeIn K cd__law_field "_law_field" = true) (k__law_field : PySem.W.keepIn K (.ref f__law_field) = true)
    (a__law_odd_pair : PySem.W.nsIn K mainGlobals "_law_odd_pair" = some (some (.ref f__law_odd_pair))) (l__law_odd_pair : K.lookup f__law_odd_pair = some ⟨oc__law_odd_pair, od__law_odd_pair, .func (PySem.W.fnOf "_law_odd_pair" "_law_odd_pair" (defArgs s__law_odd_pair) (defBody s__law_odd_pair) (defScope s__law_odd_pair) .none kV__law_odd_pair dc__law_odd_pair pm__law_odd_pair an__law_odd_pair cd__law_odd_pair ct__law_odd_pair), sl__law_odd_pair⟩) (c__law_odd_pair : PySem.W.codeIn K cd__law_odd_pair "_law_odd_pair" = true) (k__law_odd_pair : PySem.W.keepIn K (.ref f__law_odd_pair) = true)
    (a__law_bent_table : PySem.W.nsIn K mainGlobals "_law_bent_table" = some (some (.ref f__law_bent_table))) (l__law_bent_table : K.lookup f__law_bent_table = some ⟨oc__law_bent_table, od__law_bent_table, .func (PySem.W.fnOf "_law_bent_table" "_law_bent_table" (defArgs s__law_bent_table) (defBody s__law_bent_table) (defScope s__law_bent_table) .none kV__law_bent_table dc__law_bent_table pm__law_bent_table an__law_bent_table cd__law_bent_table ct__law_bent_table), sl__law_bent_table⟩) (c__law_bent_table : PySem.W.codeIn K cd__law_bent_table "_law_bent_table" = true) (k__law_bent_table : PySem.W.keepIn K (.ref f__law_bent_table) = true)
    (a__law_gcd : PySem.W.nsIn K mainGlobals "_law_gcd" = some (some (.ref f__law_gcd))) (l__law_gcd : K.lookup f__law_gcd = some ⟨oc__law_gcd, od__law_gcd, .func (PySem.W.fnOf "_law_gcd" "_law_gcd" (defArgs s__law_gcd) (defBody s__law_gcd) (defScope s__law_gcd) .none kV__law_gcd dc__law_gcd pm__law_gcd an__law_gcd cd__law_gcd ct__law_gcd), sl__law_gcd⟩) (c__law_gcd : PySem.W.codeIn K cd__law_gcd "_law_gcd" = true) (k__law_gcd : PySem.W.keepIn K (.ref f__law_gcd) = true)
    (a__law_num : PySem.W.nsIn K mainGlobals "_law_num" = some (some (.ref f__law_num))) (l__law_num : K.lookup f__law_num = some ⟨oc__law_num, od__law_num, .func (PySem.W.fnOf "_law_num" "_law_num" (defArgs s__law_num) (defBody s__law_num) (defScope s__law_num) .none kV__law_num dc__law_num pm__law_num an__law_num cd__law_num ct__law_num), sl__law_num⟩) (c__law_num : PySem.W.codeIn K cd__law_num "_law_num" = true) (k__law_num : PySem.W.keepIn K (.ref f__law_num) = true)
    (a__law_number : PySem.W.nsIn K mainGlobals "_law_number" = some (some (.ref f__law_number))) (l__law_number : K.lookup f__law_number = some ⟨oc__law_number, od__law_number, .func (PySem.W.fnOf "_law_number" "_law_number" (defArgs s__law_number) (defBody s__law_number) (defScope s__law_number) .none kV__law_number dc__law_number pm__law_number an__law_number cd__law_number ct__law_number), sl__law_number⟩) (c__law_number : PySem.W.codeIn K cd__law_number "_law_number" = true) (k__law_number : PySem.W.keepIn K (.ref f__law_number) = true)
    (a__law_row : PySem.W.nsIn K mainGlobals "_law_row" = some (some (.ref f__law_row))) (l__law_row : K.lookup f__law_row = some ⟨oc__law_row, od__law_row, .func (PySem.W.fnOf "_law_row" "_law_row" (defArgs s__law_row) (defBody s__law_row) (defScope s__law_row) .none kV__law_row dc__law_row pm__law_row an__law_row cd__law_row ct__law_row), sl__law_row⟩) (c__law_row : PySem.W.codeIn K cd__law_row "_law_row" = true) (k__law_row : PySem.W.keepIn K (.ref f__law_row) = true)
    (a__law_is_number : PySem.W.nsIn K mainGlobals "_law_is_number" = some (some (.ref f__law_is_number))) (l__law_is_number : K.lookup f__law_is_number = some ⟨oc__law_is_number, od__law_is_number, .func (PySem.W.fnOf "_law_is_number" "_law_is_number" (defArgs s__law_is_number) (defBody s__law_is_number) (defScope s__law_is_number) .none kV__law_is_number dc__law_is_number pm__law_is_number an__law_is_number cd__law_is_number ct__law_is_number), sl__law_is_number⟩) (c__law_is_number : PySem.W.codeIn K cd__law_is_number "_law_is_number" = true) (k__law_is_number : PySem.W.keepIn K (.ref f__law_is_number) = true)
    (a__law_numbers_good : PySem.W.nsIn K mainGlobals "_law_numbers_good" = some (some (.ref f__law_numbers_good))) (l__law_numbers_good : K.lookup f__law_numbers_good = some ⟨oc__law_numbers_good, od__law_numbers_good, .func (PySem.W.fnOf "_law_numbers_good" "_law_numbers_good" (defArgs s__law_numbers_good) (defBody s__law_numbers_good) (defScope s__law_numbers_good) .none kV__law_numbers_good dc__law_numbers_good pm__law_numbers_good an__law_numbers_good cd__law_numbers_good ct__law_numbers_good), sl__law_numbers_good⟩) (c__law_numbers_good : PySem.W.codeIn K cd__law_numbers_good "_law_numbers_good" = true) (k__law_numbers_good : PySem.W.keepIn K (.ref f__law_numbers_good) = true)
    (a__law_lead_word : PySem.W.nsIn K mainGlobals "_law_lead_word" = some (some (.ref f__law_lead_word))) (l__law_lead_word : K.lookup f__law_lead_word = some ⟨oc__law_lead_word, od__law_lead_word, .func (PySem.W.fnOf "_law_lead_word" "_law_lead_word" (defArgs s__law_lead_word) (defBody s__law_lead_word) (defScope s__law_lead_word) .none kV__law_lead_word dc__law_lead_word pm__law_lead_word an__law_lead_word cd__law_lead_word ct__law_lead_word), sl__law_lead_word⟩) (c__law_lead_word : PySem.W.codeIn K cd__law_lead_word "_law_lead_word" = true) (k__law_lead_word : PySem.W.keepIn K (.ref f__law_lead_word) = true)
    (a__law_table : PySem.W.nsIn K mainGlobals "_law_table" = some (some (.ref f__law_table))) (l__law_table : K.lookup f__law_table = some ⟨oc__law_table, od__law_table, .func (PySem.W.fnOf "_law_table" "_law_table" (defArgs s__law_table) (defBody s__law_table) (defScope s__law_table) .none kV__law_table dc__law_table pm__law_table an__law_table cd__law_table ct__law_table), sl__law_table⟩) (c__law_table : PySem.W.codeIn K cd__law_table "_law_table" = true) (k__law_table : PySem.W.keepIn K (.ref f__law_table) = true)
    (a__law_int : PySem.W.nsIn K mainGlobals "_law_int" = some (some (.ref f__law_int))) (l__law_int : K.lookup f__law_int = some ⟨oc__law_int, od__law_int, .func (PySem.W.fnOf "_law_int" "_law_int" (defArgs s__law_int) (defBody s__law_int) (defScope s__law_int) .none kV__law_int dc__law_int pm__law_int an__law_int cd__law_int ct__law_int), sl__law_int⟩) (c__law_int : PySem.W.codeIn K cd__law_int "_law_int" = true) (k__law_int : PySem.W.keepIn K (.ref f__law_int) = true)
    (a__law_like : PySem.W.nsIn K mainGlobals "_law_like" = some (some (.ref f__law_like))) (l__law_like : K.lookup f__law_like = some ⟨oc__law_like, od__law_like, .func (PySem.W.fnOf "_law_like" "_law_like" (defArgs s__law_like) (defBody s__law_like) (defScope s__law_like) .none kV__law_like dc__law_like pm__law_like an__law_like cd__law_like ct__law_like), sl__law_like⟩) (c__law_like : PySem.W.codeIn K cd__law_like "_law_like" = true) (k__law_like : PySem.W.keepIn K (.ref f__law_like) = true)
    (a__law_behind_word : PySem.W.nsIn K mainGlobals "_law_behind_word" = some (some (.ref f__law_behind_word))) (l__law_behind_word : K.lookup f__law_behind_word = some ⟨oc__law_behind_word, od__law_behind_word, .func (PySem.W.fnOf "_law_behind_word" "_law_behind_word" (defArgs s__law_behind_word) (defBody s__law_behind_word) (defScope s__law_behind_word) .none kV__law_behind_word dc__law_behind_word pm__law_behind_word an__law_behind_word cd__law_behind_word ct__law_behind_word), sl__law_behind_word⟩) (c__law_behind_word : PySem.W.codeIn K cd__law_behind_word "_law_behind_word" = true) (k__law_behind_word : PySem.W.keepIn K (.ref f__law_behind_word) = true)
    (a__law_why : PySem.W.nsIn K mainGlobals "_law_why" = some (some (.ref f__law_why))) (l__law_why : K.lookup f__law_why = some ⟨oc__law_why, od__law_why, .func (PySem.W.fnOf "_law_why" "_law_why" (defArgs s__law_why) (defBody s__law_why) (defScope s__law_why) .none kV__law_why dc__law_why pm__law_why an__law_why cd__law_why ct__law_why), sl__law_why⟩) (c__law_why : PySem.W.codeIn K cd__law_why "_law_why" = true) (k__law_why : PySem.W.keepIn K (.ref f__law_why) = true)
    (a__law_plus : PySem.W.nsIn K mainGlobals "_law_plus" = some (some (.ref f__law_plus))) (l__law_plus : K.lookup f__law_plus = some ⟨oc__law_plus, od__law_plus, .func (PySem.W.fnOf "_law_plus" "_law_plus" (defArgs s__law_plus) (defBody s__law_plus) (defScope s__law_plus) .none kV__law_plus dc__law_plus pm__law_plus an__law_plus cd__law_plus ct__law_plus), sl__law_plus⟩) (c__law_plus : PySem.W.codeIn K cd__law_plus "_law_plus" = true) (k__law_plus : PySem.W.keepIn K (.ref f__law_plus) = true)
    (a__law_times : PySem.W.nsIn K mainGlobals "_law_times" = some (some (.ref f__law_times))) (l__law_times : K.lookup f__law_times = some ⟨oc__law_times, od__law_times, .func (PySem.W.fnOf "_law_times" "_law_times" (defArgs s__law_times) (defBody s__law_times) (defScope s__law_times) .none kV__law_times dc__law_times pm__law_times an__law_times cd__law_times ct__law_times), sl__law_times⟩) (c__law_times : PySem.W.codeIn K cd__law_times "_law_times" = true) (k__law_times : PySem.W.keepIn K (.ref f__law_times) = true)
    (a__law_dot : PySem.W.nsIn K mainGlobals "_law_dot" = some (some (.ref f__law_dot))) (l__law_dot : K.lookup f__law_dot = some ⟨oc__law_dot, od__law_dot, .func (PySem.W.fnOf "_law_dot" "_law_dot" (defArgs s__law_dot) (defBody s__law_dot) (defScope s__law_dot) .none kV__law_dot dc__law_dot pm__law_dot an__law_dot cd__law_dot ct__law_dot), sl__law_dot⟩) (c__law_dot : PySem.W.codeIn K cd__law_dot "_law_dot" = true) (k__law_dot : PySem.W.keepIn K (.ref f__law_dot) = true)
    (a__law_led : PySem.W.nsIn K mainGlobals "_law_led" = some (some (.ref f__law_led))) (l__law_led : K.lookup f__law_led = some ⟨oc__law_led, od__law_led, .func (PySem.W.fnOf "_law_led" "_law_led" (defArgs s__law_led) (defBody s__law_led) (defScope s__law_led) .none kV__law_led dc__law_led pm__law_led an__law_led cd__law_led ct__law_led), sl__law_led⟩) (c__law_led : PySem.W.codeIn K cd__law_led "_law_led" = true) (k__law_led : PySem.W.keepIn K (.ref f__law_led) = true)
    (a_is_field : PySem.W.nsIn K mainGlobals "is_field" = some (some (.ref f_is_field))) (l_is_field : K.lookup f_is_field = some ⟨oc_is_field, od_is_field, .func (PySem.W.fnOf "is_field" "is_field" (defArgs s_is_field) (defBody s_is_field) (defScope s_is_field) .none kV_is_field dc_is_field pm_is_field an_is_field cd_is_field ct_is_field), sl_is_field⟩) (c_is_field : PySem.W.codeIn K cd_is_field "is_field" = true) (k_is_field : PySem.W.keepIn K (.ref f_is_field) = true)
    (a_check_field : PySem.W.nsIn K mainGlobals "check_field" = some (some (.ref f_check_field))) (l_check_field : K.lookup f_check_field = some ⟨oc_check_field, od_check_field, .func (PySem.W.fnOf "check_field" "check_field" (defArgs s_check_field) (defBody s_check_field) (defScope s_check_field) .none kV_check_field dc_check_field pm_check_field an_check_field cd_check_field ct_check_field), sl_check_field⟩) (c_check_field : PySem.W.codeIn K cd_check_field "check_field" = true) (k_check_field : PySem.W.keepIn K (.ref f_check_field) = true)
    (a_check_lengths : PySem.W.nsIn K mainGlobals "check_lengths" = some (some (.ref f_check_lengths))) (l_check_lengths : K.lookup f_check_lengths = some ⟨oc_check_lengths, od_check_lengths, .func (PySem.W.fnOf "check_lengths" "check_lengths" (defArgs s_check_lengths) (defBody s_check_lengths) (defScope s_check_lengths) .none kV_check_lengths dc_check_lengths pm_check_lengths an_check_lengths cd_check_lengths ct_check_lengths), sl_check_lengths⟩) (c_check_lengths : PySem.W.codeIn K cd_check_lengths "check_lengths" = true) (k_check_lengths : PySem.W.keepIn K (.ref f_check_lengths) = true)
    (a_fits : PySem.W.nsIn K mainGlobals "fits" = some (some (.ref f_fits))) (l_fits : K.lookup f_fits = some ⟨oc_fits, od_fits, .func (PySem.W.fnOf "fits" "fits" (defArgs s_fits) (defBody s_fits) (defScope s_fits) .none kV_fits dc_fits pm_fits an_fits cd_fits ct_fits), sl_fits⟩) (c_fits : PySem.W.codeIn K cd_fits "fits" = true) (k_fits : PySem.W.keepIn K (.ref f_fits) = true)
    (a_check_numbers : PySem.W.nsIn K mainGlobals "check_numbers" = some (some (.ref f_check_numbers))) (l_check_numbers : K.lookup f_check_numbers = some ⟨oc_check_numbers, od_check_numbers, .func (PySem.W.fnOf "check_numbers" "check_numbers" (defArgs s_check_numbers) (defBody s_check_numbers) (defScope s_check_numbers) .none kV_check_numbers dc_check_numbers pm_check_numbers an_check_numbers cd_check_numbers ct_check_numbers), sl_check_numbers⟩) (c_check_numbers : PySem.W.codeIn K cd_check_numbers "check_numbers" = true) (k_check_numbers : PySem.W.keepIn K (.ref f_check_numbers) = true)
    (a_check_row_numbers : PySem.W.nsIn K mainGlobals "check_row_numbers" = some (some (.ref f_check_row_numbers))) (l_check_row_numbers : K.lookup f_check_row_numbers = some ⟨oc_check_row_numbers, od_check_row_numbers, .func (PySem.W.fnOf "check_row_numbers" "check_row_numbers" (defArgs s_check_row_numbers) (defBody s_check_row_numbers) (defScope s_check_row_numbers) .none kV_check_row_numbers dc_check_row_numbers pm_check_row_numbers an_check_row_numbers cd_check_row_numbers ct_check_row_numbers), sl_check_row_numbers⟩) (c_check_row_numbers : PySem.W.codeIn K cd_check_row_numbers "check_row_numbers" = true) (k_check_row_numbers : PySem.W.keepIn K (.ref f_check_row_numbers) = true)
    (a_added : PySem.W.nsIn K mainGlobals "added" = some (some (.ref f_added))) (l_added : K.lookup f_added = some ⟨oc_added, od_added, .func (PySem.W.fnOf "added" "added" (defArgs s_added) (defBody s_added) (defScope s_added) .none kV_added dc_added pm_added an_added cd_added ct_added), sl_added⟩) (c_added : PySem.W.codeIn K cd_added "added" = true) (k_added : PySem.W.keepIn K (.ref f_added) = true)
    (a_inverse : PySem.W.nsIn K mainGlobals "inverse" = some (some (.ref f_inverse))) (l_inverse : K.lookup f_inverse = some ⟨oc_inverse, od_inverse, .func (PySem.W.fnOf "inverse" "inverse" (defArgs s_inverse) (defBody s_inverse) (defScope s_inverse) .none kV_inverse dc_inverse pm_inverse an_inverse cd_inverse ct_inverse), sl_inverse⟩) (c_inverse : PySem.W.codeIn K cd_inverse "inverse" = true) (k_inverse : PySem.W.keepIn K (.ref f_inverse) = true)
    (a_lowest : PySem.W.nsIn K mainGlobals "lowest" = some (some (.ref f_lowest))) (l_lowest : K.lookup f_lowest = some ⟨oc_lowest, od_lowest, .func (PySem.W.fnOf "lowest" "lowest" (defArgs s_lowest) (defBody s_lowest) (defScope s_lowest) .none kV_lowest dc_lowest pm_lowest an_lowest cd_lowest ct_lowest), sl_lowest⟩) (c_lowest : PySem.W.codeIn K cd_lowest "lowest" = true) (k_lowest : PySem.W.keepIn K (.ref f_lowest) = true)
    (a_multiplied : PySem.W.nsIn K mainGlobals "multiplied" = some (some (.ref f_multiplied))) (l_multiplied : K.lookup f_multiplied = some ⟨oc_multiplied, od_multiplied, .func (PySem.W.fnOf "multiplied" "multiplied" (defArgs s_multiplied) (defBody s_multiplied) (defScope s_multiplied) .none kV_multiplied dc_multiplied pm_multiplied an_multiplied cd_multiplied ct_multiplied), sl_multiplied⟩) (c_multiplied : PySem.W.codeIn K cd_multiplied "multiplied" = true) (k_multiplied : PySem.W.keepIn K (.ref f_multiplied) = true)
    (a_paired : PySem.W.nsIn K mainGlobals "paired" = some (some (.ref f_paired))) (l_paired : K.lookup f_paired = some ⟨oc_paired, od_paired, .func (PySem.W.fnOf "paired" "paired" (defArgs s_paired) (defBody s_paired) (defScope s_paired) .none kV_paired dc_paired pm_paired an_paired cd_paired ct_paired), sl_paired⟩) (c_paired : PySem.W.codeIn K cd_paired "paired" = true) (k_paired : PySem.W.keepIn K (.ref f_paired) = true)
    (a_led : PySem.W.nsIn K mainGlobals "led" = some (some (.ref f_led))) (l_led : K.lookup f_led = some ⟨oc_led, od_led, .func (PySem.W.fnOf "led" "led" (defArgs s_led) (defBody s_led) (defScope s_led) .none kV_led dc_led pm_led an_led cd_led ct_led), sl_led⟩) (c_led : PySem.W.codeIn K cd_led "led" = true) (k_led : PySem.W.keepIn K (.ref f_led) = true)
    (a_lead : PySem.W.nsIn K mainGlobals "lead" = some (some (.ref f_lead))) (l_lead : K.lookup f_lead = some ⟨oc_lead, od_lead, .func (PySem.W.fnOf "lead" "lead" (defArgs s_lead) (defBody s_lead) (defScope s_lead) .none kV_lead dc_lead pm_lead an_lead cd_lead ct_lead), sl_lead⟩) (c_lead : PySem.W.codeIn K cd_lead "lead" = true) (k_lead : PySem.W.keepIn K (.ref f_lead) = true)
    (a_turned : PySem.W.nsIn K mainGlobals "turned" = some (some (.ref f_turned))) (l_turned : K.lookup f_turned = some ⟨oc_turned, od_turned, .func (PySem.W.fnOf "turned" "turned" (defArgs s_turned) (defBody s_turned) (defScope s_turned) .none kV_turned dc_turned pm_turned an_turned cd_turned ct_turned), sl_turned⟩) (c_turned : PySem.W.codeIn K cd_turned "turned" = true) (k_turned : PySem.W.keepIn K (.ref f_turned) = true)
    (a_joined : PySem.W.nsIn K mainGlobals "joined" = some (some (.ref f_joined))) (l_joined : K.lookup f_joined = some ⟨oc_joined, od_joined, .func (PySem.W.fnOf "joined" "joined" (defArgs s_joined) (defBody s_joined) (defScope s_joined) .none kV_joined dc_joined pm_joined an_joined cd_joined ct_joined), sl_joined⟩) (c_joined : PySem.W.codeIn K cd_joined "joined" = true) (k_joined : PySem.W.keepIn K (.ref f_joined) = true)
    (a_row_length : PySem.W.nsIn K mainGlobals "row_length" = some (some (.ref f_row_length))) (l_row_length : K.lookup f_row_length = some ⟨oc_row_length, od_row_length, .func (PySem.W.fnOf "row_length" "row_length" (defArgs s_row_length) (defBody s_row_length) (defScope s_row_length) .none kV_row_length dc_row_length pm_row_length an_row_length cd_row_length ct_row_length), sl_row_length⟩) (c_row_length : PySem.W.codeIn K cd_row_length "row_length" = true) (k_row_length : PySem.W.keepIn K (.ref f_row_length) = true)
    (a_behind : PySem.W.nsIn K mainGlobals "behind" = some (some (.ref f_behind))) (l_behind : K.lookup f_behind = some ⟨oc_behind, od_behind, .func (PySem.W.fnOf "behind" "behind" (defArgs s_behind) (defBody s_behind) (defScope s_behind) .none kV_behind dc_behind pm_behind an_behind cd_behind ct_behind), sl_behind⟩) (c_behind : PySem.W.codeIn K cd_behind "behind" = true) (k_behind : PySem.W.keepIn K (.ref f_behind) = true)
    (a__law_numbers : PySem.W.nsIn K mainGlobals "_law_numbers" = some (some (.ref f__law_numbers))) (l__law_numbers : K.lookup f__law_numbers = some ⟨oc__law_numbers, od__law_numbers, .func (PySem.W.fnOf "_law_numbers" "_law_numbers" (defArgs s__law_numbers) (defBody s__law_numbers) (defScope s__law_numbers) .none kV__law_numbers dc__law_numbers pm__law_numbers an__law_numbers cd__law_numbers ct__law_numbers), sl__law_numbers⟩) (c__law_numbers : PySem.W.codeIn K cd__law_numbers "_law_numbers" = true) (k__law_numbers : PySem.W.keepIn K (.ref f__law_numbers) = true)
    (a__law_behind_so : PySem.W.nsIn K mainGlobals "_law_behind_so" = some (some (.ref f__law_behind_so))) (l__law_behind_so : K.lookup f__law_behind_so = some ⟨oc__law_behind_so, od__law_behind_so, .func (PySem.W.fnOf "_law_behind_so" "_law_behind_so" (defArgs s__law_behind_so) (defBody s__law_behind_so) (defScope s__law_behind_so) .none kV__law_behind_so dc__law_behind_so pm__law_behind_so an__law_behind_so (.ref cL__law_behind_so) ct__law_behind_so), sl__law_behind_so⟩) (c__law_behind_so : PySem.W.codeIn K (.ref cL__law_behind_so) "_law_behind_so" = true) (k__law_behind_so : PySem.W.keepIn K (.ref f__law_behind_so) = true)
    (a_still_table : PySem.W.nsIn K mainGlobals "still_table" = some (some (.ref f_still_table))) (l_still_table : K.lookup f_still_table = some ⟨oc_still_table, od_still_table, .func (PySem.W.fnOf "still_table" "still_table" (defArgs s_still_table) (defBody s_still_table) (defScope s_still_table) .none kV_still_table dc_still_table pm_still_table an_still_table cd_still_table ct_still_table), sl_still_table⟩) (c_still_table : PySem.W.codeIn K cd_still_table "still_table" = true) (k_still_table : PySem.W.keepIn K (.ref f_still_table) = true)
    (a_still : PySem.W.nsIn K mainGlobals "still" = some (some (.ref f_still))) (l_still : K.lookup f_still = some ⟨oc_still, od_still, .func (PySem.W.fnOf "still" "still" (defArgs s_still) (defBody s_still) (defScope s_still) .none kV_still dc_still pm_still an_still cd_still ct_still), sl_still⟩) (c_still : PySem.W.codeIn K cd_still "still" = true) (k_still : PySem.W.keepIn K (.ref f_still) = true)
    (a__law_still_so : PySem.W.nsIn K mainGlobals "_law_still_so" = some (some (.ref f__law_still_so))) (l__law_still_so : K.lookup f__law_still_so = some ⟨oc__law_still_so, od__law_still_so, .func (PySem.W.fnOf "_law_still_so" "_law_still_so" (defArgs s__law_still_so) (defBody s__law_still_so) (defScope s__law_still_so) .none kV__law_still_so dc__law_still_so pm__law_still_so an__law_still_so cd__law_still_so ct__law_still_so), sl__law_still_so⟩) (c__law_still_so : PySem.W.codeIn K cd__law_still_so "_law_still_so" = true) (k__law_still_so : PySem.W.keepIn K (.ref f__law_still_so) = true)
    (a_law : PySem.W.nsIn K mainGlobals "law" = some (some (.ref f_law))) (l_law : K.lookup f_law = some ⟨oc_law, od_law, .func (PySem.W.fnOf "law" "law" (defArgs s_law) (defBody s_law) (defScope s_law) .none kV_law dc_law pm_law an_law (.ref cL) ct_law), sl_law⟩) (c_law : PySem.W.codeIn K (.ref cL) "law" = true) (k_law : PySem.W.keepIn K (.ref f_law) = true)
    (z_len : PySem.W.nsIn K mainGlobals "len" = some none)
    (z_range : PySem.W.nsIn K mainGlobals "range" = some none)
    (z_all : PySem.W.nsIn K mainGlobals "all" = some none)
    (z_abs : PySem.W.nsIn K mainGlobals "abs" = some none)
    (z_list : PySem.W.nsIn K mainGlobals "list" = some none)
    (z_isinstance : PySem.W.nsIn K mainGlobals "isinstance" = some none)
    (z_int : PySem.W.nsIn K mainGlobals "int" = some none)
    (z_bool : PySem.W.nsIn K mainGlobals "bool" = some none)
    (z_str : PySem.W.nsIn K mainGlobals "str" = some none)
    (z_tuple : PySem.W.nsIn K mainGlobals "tuple" = some none)
    (z_zip : PySem.W.nsIn K mainGlobals "zip" = some none)
    (z_enumerate : PySem.W.nsIn K mainGlobals "enumerate" = some none)
    (z_reversed : PySem.W.nsIn K mainGlobals "reversed" = some none)
    (z_any : PySem.W.nsIn K mainGlobals "any" = some none)
    (z_sorted : PySem.W.nsIn K mainGlobals "sorted" = some none)
    (z_sum : PySem.W.nsIn K mainGlobals "sum" = some none)
    (z_min : PySem.W.nsIn K mainGlobals "min" = some none)
    (z_set : PySem.W.nsIn K mainGlobals "set" = some none)
    (z_ValueError : PySem.W.nsIn K mainGlobals "ValueError" = some none)
    (z_gcd : PySem.W.nsIn K mainGlobals "gcd" = some (some (.builtin "math.gcd")))
    (a_FIELDS : PySem.W.nsIn K mainGlobals "FIELDS" = some (some (.ref aFIELDS))) (l_FIELDS : K.lookup aFIELDS = some ⟨.type "tuple", odFIELDS, .seq itsFIELDS nFIELDS, slFIELDS⟩) (v_FIELDS : Vals (fieldsL.map V.int) itsFIELDS.toList)
    (a_NOUGHT : PySem.W.nsIn K mainGlobals "NOUGHT" = some (some (.ref aNOUGHT))) (l_NOUGHT : K.lookup aNOUGHT = some ⟨.type "tuple", odNOUGHT, .seq itsNOUGHT nNOUGHT, slNOUGHT⟩) (v_NOUGHT : Vals ([V.int 0, V.int 1] : List V) itsNOUGHT.toList)
    (a_ONE : PySem.W.nsIn K mainGlobals "ONE" = some (some (.ref aONE))) (l_ONE : K.lookup aONE = some ⟨.type "tuple", odONE, .seq itsONE nONE, slONE⟩) (v_ONE : Vals ([V.int 1, V.int 1] : List V) itsONE.toList)
    (l_code : K.lookup cL = some ⟨.type "code", ddL, .fields vsL, slL⟩) (v_11 : vsL[11]? = some (.ref PT)) (v_g11 : vsL.getD 11 .none = .ref PT) (v_18 : vsL.getD 18 .none = .str fileL tfL) (v_7 : vsL.getD 7 .none = .int flagsL tgL) (v_9 : vsL.getD 9 .none = .bool inFL) (v_10 : vsL.getD 10 .none = .int textL ttL) (n_cP : cL ≠ PT) (n_PT : K.lookup PT = none)
    (l_code__law_behind_so : K.lookup cL__law_behind_so = some ⟨.type "code", ddL__law_behind_so, .fields vsL__law_behind_so, slL__law_behind_so⟩) (v_11__law_behind_so : vsL__law_behind_so[11]? = some (.ref PT__law_behind_so)) (v_g11__law_behind_so : vsL__law_behind_so.getD 11 .none = .ref PT__law_behind_so) (v_18__law_behind_so : vsL__law_behind_so.getD 18 .none = .str fileL__law_behind_so tfL__law_behind_so) (v_7__law_behind_so : vsL__law_behind_so.getD 7 .none = .int flagsL__law_behind_so tgL__law_behind_so) (v_9__law_behind_so : vsL__law_behind_so.getD 9 .none = .bool inFL__law_behind_so) (v_10__law_behind_so : vsL__law_behind_so.getD 10 .none = .int textL__law_behind_so ttL__law_behind_so) (n_cP__law_behind_so : cL__law_behind_so ≠ PT__law_behind_so) (n_PT__law_behind_so : K.lookup PT__law_behind_so = none)
    (n_PP0_1 : PT ≠ PT__law_behind_so)
    (n_PP1_0 : PT__law_behind_so ≠ PT)
    (i_I : PySem.W.findIn K (.ref CW) "__init__" = some (some (.ref fI)))
    (l_I : K.lookup fI = some ⟨ocI, odI, .func (PySem.W.fnOf "__init__" "WebError.__init__" (defArgs s_init) (defBody s_init) (defScope s_init) dVI kVI dcI pmI anI cdI ctI), slI⟩) (c_I : PySem.W.codeIn K cdI "WebError.__init__" = true) (k_I : PySem.W.keepIn K (.ref fI) = true) (y_I : PySem.W.typeIn K (.ref fI) = some (.type "function")) (t_I : DflV K dVI [.str ""]) (v_VI : PySem.W.findCls K (.type "ValueError") (.type "type") "__init__" = some (.val (.builtin "ValueError.__init__")))
    (n_cg : PySem.W.specialIn K (.builtin "object.__class__") "__get__" = some (some (.builtin "getset_descriptor.__get__"))) (t_cg : PySem.W.takesIn K (.builtin "object.__class__") = some true)
    (a_BadField : PySem.W.nsIn K mainGlobals "BadField" = some (some (.ref C_BadField)))
    (x_BadField : K.lookup C_BadField = some (excClassObj nm_BadField q_BadField C_BadField N_BadField bs_BadField bm_BadField true sn_BadField sub_BadField ab_BadField col_BadField dd_BadField k0_BadField k1_BadField (some (.str n2_BadField tk_BadField)) k3_BadField k5_BadField "ValueError.__new__"))
    (r_BadField : PySem.HandSPX.refsVE bm_BadField = true)
    (w_BadField : Txt.lower n2_BadField = "badfield")
    (n_BadField : n2_BadField.length ≤ 5592405)
    (sa_BadField : PySem.W.findIn K (.ref C_BadField) "__setattr__" = some (some (.builtin "object.__setattr__")))
    (ga_BadField : PySem.W.findIn K (.ref C_BadField) "__getattribute__" = some (some (.builtin "BaseException.__getattribute__")))
    (gg_BadField : PySem.W.findIn K (.ref C_BadField) "__getattr__" = some none)
    (xc_BadField : PySem.W.subIn K (.ref C_BadField) (.type "BaseException") = some true)
    (y_BadField : PySem.W.typeIn K (.ref C_BadField) = some (.type "type"))
    (k_BadField : PySem.W.keepIn K (.ref C_BadField) = true)
    (d_BadField : PySem.W.hasDictIn K C_BadField = true)
    (c_BadField : PySem.W.findIn K (.ref C_BadField) "__class__" = some (some (.builtin "object.__class__")))
    (m_BadField : PySem.W.mroIn K C_BadField (.type "object") = some true)
    (rd_BadField : PySem.W.readsIn K C_BadField (.type "type") = true)
    (f_BadField : PySem.W.findCls K (.ref C_BadField) (.type "type") "__name__" = some (.get (.builtin "getset_descriptor.__get__") (.builtin "type.__name__") (.ref C_BadField) (.type "type")))
    (o_BadField : PySem.W.findIn K (.ref C_BadField) "word" = some none)
    (i_BadField : PySem.W.findIn K (.ref C_BadField) "__init__" = some (some (.ref fI)))
    (s_BadField : PySem.W.subIn K (.ref C_BadField) (.ref CW) = some true)
    (a_BadNumber : PySem.W.nsIn K mainGlobals "BadNumber" = some (some (.ref C_BadNumber)))
    (x_BadNumber : K.lookup C_BadNumber = some (excClassObj nm_BadNumber q_BadNumber C_BadNumber N_BadNumber bs_BadNumber bm_BadNumber true sn_BadNumber sub_BadNumber ab_BadNumber col_BadNumber dd_BadNumber k0_BadNumber k1_BadNumber (some (.str n2_BadNumber tk_BadNumber)) k3_BadNumber k5_BadNumber "ValueError.__new__"))
    (r_BadNumber : PySem.HandSPX.refsVE bm_BadNumber = true)
    (w_BadNumber : Txt.lower n2_BadNumber = "badnumber")
    (n_BadNumber : n2_BadNumber.length ≤ 5592405)
    (sa_BadNumber : PySem.W.findIn K (.ref C_BadNumber) "__setattr__" = some (some (.builtin "object.__setattr__")))
    (ga_BadNumber : PySem.W.findIn K (.ref C_BadNumber) "__getattribute__" = some (some (.builtin "BaseException.__getattribute__")))
    (gg_BadNumber : PySem.W.findIn K (.ref C_BadNumber) "__getattr__" = some none)
    (xc_BadNumber : PySem.W.subIn K (.ref C_BadNumber) (.type "BaseException") = some true)
    (y_BadNumber : PySem.W.typeIn K (.ref C_BadNumber) = some (.type "type"))
    (k_BadNumber : PySem.W.keepIn K (.ref C_BadNumber) = true)
    (d_BadNumber : PySem.W.hasDictIn K C_BadNumber = true)
    (c_BadNumber : PySem.W.findIn K (.ref C_BadNumber) "__class__" = some (some (.builtin "object.__class__")))
    (m_BadNumber : PySem.W.mroIn K C_BadNumber (.type "object") = some true)
    (rd_BadNumber : PySem.W.readsIn K C_BadNumber (.type "type") = true)
    (f_BadNumber : PySem.W.findCls K (.ref C_BadNumber) (.type "type") "__name__" = some (.get (.builtin "getset_descriptor.__get__") (.builtin "type.__name__") (.ref C_BadNumber) (.type "type")))
    (o_BadNumber : PySem.W.findIn K (.ref C_BadNumber) "word" = some none)
    (i_BadNumber : PySem.W.findIn K (.ref C_BadNumber) "__init__" = some (some (.ref fI)))
    (s_BadNumber : PySem.W.subIn K (.ref C_BadNumber) (.ref CW) = some true)
    (a_BadShape : PySem.W.nsIn K mainGlobals "BadShape" = some (some (.ref C_BadShape)))
    (x_BadShape : K.lookup C_BadShape = some (excClassObj nm_BadShape q_BadShape C_BadShape N_BadShape bs_BadShape bm_BadShape true sn_BadShape sub_BadShape ab_BadShape col_BadShape dd_BadShape k0_BadShape k1_BadShape (some (.str n2_BadShape tk_BadShape)) k3_BadShape k5_BadShape "ValueError.__new__"))
    (r_BadShape : PySem.HandSPX.refsVE bm_BadShape = true)
    (w_BadShape : Txt.lower n2_BadShape = "badshape")
    (n_BadShape : n2_BadShape.length ≤ 5592405)
    (sa_BadShape : PySem.W.findIn K (.ref C_BadShape) "__setattr__" = some (some (.builtin "object.__setattr__")))
    (ga_BadShape : PySem.W.findIn K (.ref C_BadShape) "__getattribute__" = some (some (.builtin "BaseException.__getattribute__")))
    (gg_BadShape : PySem.W.findIn K (.ref C_BadShape) "__getattr__" = some none)
    (xc_BadShape : PySem.W.subIn K (.ref C_BadShape) (.type "BaseException") = some true)
    (y_BadShape : PySem.W.typeIn K (.ref C_BadShape) = some (.type "type"))
    (k_BadShape : PySem.W.keepIn K (.ref C_BadShape) = true)
    (d_BadShape : PySem.W.hasDictIn K C_BadShape = true)
    (c_BadShape : PySem.W.findIn K (.ref C_BadShape) "__class__" = some (some (.builtin "object.__class__")))
    (m_BadShape : PySem.W.mroIn K C_BadShape (.type "object") = some true)
    (rd_BadShape : PySem.W.readsIn K C_BadShape (.type "type") = true)
    (f_BadShape : PySem.W.findCls K (.ref C_BadShape) (.type "type") "__name__" = some (.get (.builtin "getset_descriptor.__get__") (.builtin "type.__name__") (.ref C_BadShape) (.type "type")))
    (o_BadShape : PySem.W.findIn K (.ref C_BadShape) "word" = some none)
    (i_BadShape : PySem.W.findIn K (.ref C_BadShape) "__init__" = some (some (.ref fI)))
    (s_BadShape : PySem.W.subIn K (.ref C_BadShape) (.ref CW) = some true) :
    LamX.LawAtS l w K CX0 13 63 "_law_script" mg fa h := by
  have e := hfa.symm.trans (PySem.W.mg_of X G a_law)
  cases e
  have B : Bn mg := { gcd := PySem.W.mg_of X G z_gcd, len := PySem.W.mg_none_of X G z_len, range := PySem.W.mg_none_of X G z_range, all := PySem.W.mg_none_of X G z_all, abs := PySem.W.mg_none_of X G z_abs, list := PySem.W.mg_none_of X G z_list, isinstance := PySem.W.mg_none_of X G z_isinstance, int := PySem.W.mg_none_of X G z_int, bool := PySem.W.mg_none_of X G z_bool, str := PySem.W.mg_none_of X G z_str, tuple := PySem.W.mg_none_of X G z_tuple, zip := PySem.W.mg_none_of X G z_zip, enumerate := PySem.W.mg_none_of X G z_enumerate, reversed := PySem.W.mg_none_of X G z_reversed, any := PySem.W.mg_none_of X G z_any, sorted := PySem.W.mg_none_of X G z_sorted, sum := PySem.W.mg_none_of X G z_sum, min := PySem.W.mg_none_of X G z_min, set := PySem.W.mg_none_of X G z_set }
  have sFIELDS : itsFIELDS.size ≤ sizeLine := by
    have e : ((fieldsL.map V.int) : List V).length = itsFIELDS.toList.length := v_FIELDS.length
    have e2 : itsFIELDS.size = itsFIELDS.toList.length := (Array.length_toList ..).symm
    rw [e2, ← e]
    decide
  have sNOUGHT : itsNOUGHT.size ≤ sizeLine := by
    have e : (([V.int 0, V.int 1] : List V) : List V).length = itsNOUGHT.toList.length := v_NOUGHT.length
    have e2 : itsNOUGHT.size = itsNOUGHT.toList.length := (Array.length_toList ..).symm
    rw [e2, ← e]
    decide
  have sONE : itsONE.size ≤ sizeLine := by
    have e : (([V.int 1, V.int 1] : List V) : List V).length = itsONE.toList.length := v_ONE.length
    have e2 : itsONE.size = itsONE.toList.length := (Array.length_toList ..).symm
    rw [e2, ← e]
    decide
  have TF : FieldsAt K mg := ⟨aFIELDS, PySem.W.mg_of X G a_FIELDS, fun H => .inr ⟨_, itsFIELDS, nFIELDS, l_FIELDS, rfl, rfl, sFIELDS, v_FIELDS⟩⟩
  have TN : NoughtAt K mg := ⟨aNOUGHT, PySem.W.mg_of X G a_NOUGHT, fun H => .inr ⟨_, itsNOUGHT, nNOUGHT, l_NOUGHT, rfl, rfl, sNOUGHT, v_NOUGHT⟩⟩
  have TO : OneAt K mg := ⟨aONE, PySem.W.mg_of X G a_ONE, fun H => .inr ⟨_, itsONE, nONE, l_ONE, rfl, rfl, sONE, v_ONE⟩⟩
  have mW := PySem.W.mg_of X G a_WebError
  have mM := PySem.W.mg_of X G a_Missing
  have E_BadField : ErrC K mg (CW, CM) "BadField" C_BadField fI "badfield" :=
    { oex := ⟨⟨_, _, _, _, _, _, _, _, _, _, _, _, _, _, _, x_BadField, r_BadField⟩, sa_BadField, xc_BadField, y_BadField, k_BadField⟩, exc := ⟨ga_BadField, gg_BadField, xc_BadField, d_BadField, c_BadField, n_cg, t_cg, m_BadField⟩, nm := ⟨n2_BadField, ⟨y_BadField, rd_BadField, f_BadField, _, tk_BadField, x_BadField, rfl⟩, n_BadField, w_BadField⟩, xf := ⟨ga_BadField, gg_BadField, xc_BadField, d_BadField⟩, noW := o_BadField, mgC := PySem.W.mg_of X G a_BadField, iC := i_BadField, te := exm_of s_W i_W y_W s_BadField }
  have E_BadNumber : ErrC K mg (CW, CM) "BadNumber" C_BadNumber fI "badnumber" :=
    { oex := ⟨⟨_, _, _, _, _, _, _, _, _, _, _, _, _, _, _, x_BadNumber, r_BadNumber⟩, sa_BadNumber, xc_BadNumber, y_BadNumber, k_BadNumber⟩, exc := ⟨ga_BadNumber, gg_BadNumber, xc_BadNumber, d_BadNumber, c_BadNumber, n_cg, t_cg, m_BadNumber⟩, nm := ⟨n2_BadNumber, ⟨y_BadNumber, rd_BadNumber, f_BadNumber, _, tk_BadNumber, x_BadNumber, rfl⟩, n_BadNumber, w_BadNumber⟩, xf := ⟨ga_BadNumber, gg_BadNumber, xc_BadNumber, d_BadNumber⟩, noW := o_BadNumber, mgC := PySem.W.mg_of X G a_BadNumber, iC := i_BadNumber, te := exm_of s_W i_W y_W s_BadNumber }
  have E_BadShape : ErrC K mg (CW, CM) "BadShape" C_BadShape fI "badshape" :=
    { oex := ⟨⟨_, _, _, _, _, _, _, _, _, _, _, _, _, _, _, x_BadShape, r_BadShape⟩, sa_BadShape, xc_BadShape, y_BadShape, k_BadShape⟩, exc := ⟨ga_BadShape, gg_BadShape, xc_BadShape, d_BadShape, c_BadShape, n_cg, t_cg, m_BadShape⟩, nm := ⟨n2_BadShape, ⟨y_BadShape, rd_BadShape, f_BadShape, _, tk_BadShape, x_BadShape, rfl⟩, n_BadShape, w_BadShape⟩, xf := ⟨ga_BadShape, gg_BadShape, xc_BadShape, d_BadShape⟩, noW := o_BadShape, mgC := PySem.W.mg_of X G a_BadShape, iC := i_BadShape, te := exm_of s_W i_W y_W s_BadShape }
  refine ⟨PySem.W.fnOf "law" "law" (defArgs s_law) (defBody s_law) (defScope s_law) .none kV_law dc_law pm_law an_law (.ref cL) ct_law, [(cL, PT), (cL__law_behind_so, PT__law_behind_so)], spLawT K [(PT, qLam), (PT__law_behind_so, ("_law_behind_so.<locals>.<lambda>" : Str))], fun p hp => ?_, fun p hp => ?_, fun p hp => ?_, fun s u => .of_eq rfl, fun H a ns _ _ hT hS => ?_, fun base _ _ hTB => ?_⟩
  · simp only [List.mem_cons, List.not_mem_nil, or_false] at hp
    rcases hp with rfl | rfl
    · exact OT "law" (by simp) _ (PySem.W.mg_of X G a_law) cL PT _ _ _ _ _ _ l_law rfl rfl l_code v_11
    · exact OT "_law_behind_so" (by simp) _ (PySem.W.mg_of X G a__law_behind_so) cL__law_behind_so PT__law_behind_so _ _ _ _ _ _ l__law_behind_so rfl rfl l_code__law_behind_so v_11__law_behind_so
  · simp only [List.mem_cons, List.not_mem_nil, or_false] at hp
    rcases hp with rfl | rfl
    · exact n_PT
    · exact n_PT__law_behind_so
  · simp only [List.mem_cons, List.not_mem_nil, or_false] at hp
    rcases hp with rfl | rfl
    · exact ⟨_, vsL, fileL, tfL, flagsL, tgL, inFL, textL, ttL, X _ _ l_code, rfl, rfl, v_11, v_g11, v_18, v_7, v_9, v_10, n_cP⟩
    · exact ⟨_, vsL__law_behind_so, fileL__law_behind_so, tfL__law_behind_so, flagsL__law_behind_so, tgL__law_behind_so, inFL__law_behind_so, textL__law_behind_so, ttL__law_behind_so, X _ _ l_code__law_behind_so, rfl, rfl, v_11__law_behind_so, v_g11__law_behind_so, v_18__law_behind_so, v_7__law_behind_so, v_9__law_behind_so, v_10__law_behind_so, n_cP__law_behind_so⟩
  · refine ⟨a, ns, rfl, hS, fun p hp => ?_, fun _ => rfl⟩
    simp only [List.mem_cons, List.not_mem_nil, or_false] at hp
    rcases hp with rfl | rfl
    · exact hT (cL, PT) (by simp)
    · exact hT (cL__law_behind_so, PT__law_behind_so) (by simp)
  have TB : LamX.TabB base mg cL PT := hTB (cL, PT) (by simp)
  have TB__law_behind_so : LamX.TabB base mg cL__law_behind_so PT__law_behind_so := hTB (cL__law_behind_so, PT__law_behind_so) (by simp)
  have hTL : (PT, qLam) ∈ [(PT, qLam), (PT__law_behind_so, ("_law_behind_so.<locals>.<lambda>" : Str))] := by simp
  have huL : ∀ p ∈ [(PT, qLam), (PT__law_behind_so, ("_law_behind_so.<locals>.<lambda>" : Str))], p.1 = PT → p.2 = qLam := fun p hp e => by
    simp only [List.mem_cons, List.not_mem_nil, or_false] at hp
    rcases hp with rfl | rfl
    · rfl
    · exact absurd e n_PP1_0
  have hTL__law_behind_so : (PT__law_behind_so, ("_law_behind_so.<locals>.<lambda>" : Str)) ∈ [(PT, qLam), (PT__law_behind_so, ("_law_behind_so.<locals>.<lambda>" : Str))] := by simp
  have huL__law_behind_so : ∀ p ∈ [(PT, qLam), (PT__law_behind_so, ("_law_behind_so.<locals>.<lambda>" : Str))], p.1 = PT__law_behind_so → p.2 = ("_law_behind_so.<locals>.<lambda>" : Str) := fun p hp e => by
    simp only [List.mem_cons, List.not_mem_nil, or_false] at hp
    rcases hp with rfl | rfl
    · exact absurd e n_PP0_1
    · rfl
  have G_init := d_init (P := l.prog) (w := w) (base := base) ⟨⟨_, _, _, _, _, _, _, _, _, _, rfl, l_I, c_I, t_I, .inl rfl⟩, k_I⟩ (PySem.W.mg_none_of X G z_ValueError) v_VI y_I
  have Wb := (fun_mk (st := s__law_why) l__law_why c__law_why k__law_why).binds (ps := ["_law_ask"]) fun _ _ _ _ _ _ us hl => match us, hl with | [_], _ => rfl
  have W : WhyAt K mg f__law_why oc__law_why od__law_why kV__law_why dc__law_why pm__law_why an__law_why cd__law_why ct__law_why sl__law_why := ⟨PySem.W.mg_of X G a__law_why, k__law_why, l__law_why, c__law_why, Wb⟩
  have R__law_open : Raw K mg "_law_open" s__law_open := ⟨_, _, fun_mk (st := s__law_open) l__law_open c__law_open k__law_open, PySem.W.mg_of X G a__law_open⟩
  have D__law_open := d__law_open (P := l.prog) (w := w) (base := base) R__law_open B 
  have R__law_draw : Raw K mg "_law_draw" s__law_draw := ⟨_, _, fun_mk (st := s__law_draw) l__law_draw c__law_draw k__law_draw, PySem.W.mg_of X G a__law_draw⟩
  have D__law_draw := d__law_draw (P := l.prog) (w := w) (base := base) R__law_draw B 
  have R__law_any : Raw K mg "_law_any" s__law_any := ⟨_, _, fun_mk (st := s__law_any) l__law_any c__law_any k__law_any, PySem.W.mg_of X G a__law_any⟩
  have D__law_any := d__law_any (P := l.prog) (w := w) (base := base) R__law_any B D__law_draw
  have R__law_primes : Raw K mg "_law_primes" s__law_primes := ⟨_, _, fun_mk (st := s__law_primes) l__law_primes c__law_primes k__law_primes, PySem.W.mg_of X G a__law_primes⟩
  have D__law_primes := d__law_primes (P := l.prog) (w := w) (base := base) R__law_primes  
  have R__law_field : Raw K mg "_law_field" s__law_field := ⟨_, _, fun_mk (st := s__law_field) l__law_field c__law_field k__law_field, PySem.W.mg_of X G a__law_field⟩
  have D__law_field := d__law_field (P := l.prog) (w := w) (base := base) R__law_field  D__law_draw D__law_any D__law_primes
  have R__law_odd_pair : Raw K mg "_law_odd_pair" s__law_odd_pair := ⟨_, _, fun_mk (st := s__law_odd_pair) l__law_odd_pair c__law_odd_pair k__law_odd_pair, PySem.W.mg_of X G a__law_odd_pair⟩
  have D__law_odd_pair := d__law_odd_pair (P := l.prog) (w := w) (base := base) R__law_odd_pair  D__law_any
  have R__law_bent_table : Raw K mg "_law_bent_table" s__law_bent_table := ⟨_, _, fun_mk (st := s__law_bent_table) l__law_bent_table c__law_bent_table k__law_bent_table, PySem.W.mg_of X G a__law_bent_table⟩
  have D__law_bent_table := d__law_bent_table (P := l.prog) (w := w) (base := base) R__law_bent_table B D__law_draw D__law_odd_pair
  have R__law_gcd : Raw K mg "_law_gcd" s__law_gcd := ⟨_, _, fun_mk (st := s__law_gcd) l__law_gcd c__law_gcd k__law_gcd, PySem.W.mg_of X G a__law_gcd⟩
  have D__law_gcd := d__law_gcd (P := l.prog) (w := w) (base := base) R__law_gcd B 
  have R__law_num : Raw K mg "_law_num" s__law_num := ⟨_, _, fun_mk (st := s__law_num) l__law_num c__law_num k__law_num, PySem.W.mg_of X G a__law_num⟩
  have D__law_num := d__law_num (P := l.prog) (w := w) (base := base) R__law_num B D__law_gcd
  have R__law_number : Raw K mg "_law_number" s__law_number := ⟨_, _, fun_mk (st := s__law_number) l__law_number c__law_number k__law_number, PySem.W.mg_of X G a__law_number⟩
  have D__law_number := d__law_number (P := l.prog) (w := w) (base := base) R__law_number  D__law_draw D__law_num
  have R__law_row : Raw K mg "_law_row" s__law_row := ⟨_, _, fun_mk (st := s__law_row) l__law_row c__law_row k__law_row, PySem.W.mg_of X G a__law_row⟩
  have D__law_row := d__law_row (P := l.prog) (w := w) (base := base) R__law_row B D__law_number
  have R__law_is_number : Raw K mg "_law_is_number" s__law_is_number := ⟨_, _, fun_mk (st := s__law_is_number) l__law_is_number c__law_is_number k__law_is_number, PySem.W.mg_of X G a__law_is_number⟩
  have D__law_is_number := d__law_is_number (P := l.prog) (w := w) (base := base) R__law_is_number  D__law_gcd
  have R__law_numbers_good : Raw K mg "_law_numbers_good" s__law_numbers_good := ⟨_, _, fun_mk (st := s__law_numbers_good) l__law_numbers_good c__law_numbers_good k__law_numbers_good, PySem.W.mg_of X G a__law_numbers_good⟩
  have D__law_numbers_good := d__law_numbers_good (P := l.prog) (w := w) (base := base) R__law_numbers_good B D__law_is_number
  have R__law_lead_word : Raw K mg "_law_lead_word" s__law_lead_word := ⟨_, _, fun_mk (st := s__law_lead_word) l__law_lead_word c__law_lead_word k__law_lead_word, PySem.W.mg_of X G a__law_lead_word⟩
  have D__law_lead_word := d__law_lead_word (P := l.prog) (w := w) (base := base) R__law_lead_word B D__law_numbers_good
  have R__law_table : Raw K mg "_law_table" s__law_table := ⟨_, _, fun_mk (st := s__law_table) l__law_table c__law_table k__law_table, PySem.W.mg_of X G a__law_table⟩
  have D__law_table := d__law_table (P := l.prog) (w := w) (base := base) R__law_table B D__law_row
  have R__law_int : Raw K mg "_law_int" s__law_int := ⟨_, _, fun_mk (st := s__law_int) l__law_int c__law_int k__law_int, PySem.W.mg_of X G a__law_int⟩
  have D__law_int := d__law_int (P := l.prog) (w := w) (base := base) R__law_int B 
  have F__law_like := fun_mk (st := s__law_like) l__law_like c__law_like k__law_like
  have m__law_like := PySem.W.mg_of X G a__law_like
  have D__law_like := like_ok (P := l.prog) (w := w) (base := base) F__law_like m__law_like B D__law_int
  have b__law_like := F__law_like.binds (ps := ["_law_found", "_law_due"]) fun _ _ _ _ _ _ us hl => match us, hl with | [_, _], _ => rfl
  have R__law_behind_word : Raw K mg "_law_behind_word" s__law_behind_word := ⟨_, _, fun_mk (st := s__law_behind_word) l__law_behind_word c__law_behind_word k__law_behind_word, PySem.W.mg_of X G a__law_behind_word⟩
  have D__law_behind_word := d__law_behind_word (P := l.prog) (w := w) (base := base) R__law_behind_word B D__law_numbers_good
  have R__law_plus : Raw K mg "_law_plus" s__law_plus := ⟨_, _, fun_mk (st := s__law_plus) l__law_plus c__law_plus k__law_plus, PySem.W.mg_of X G a__law_plus⟩
  have D__law_plus := d__law_plus (P := l.prog) (w := w) (base := base) R__law_plus  D__law_num
  have R__law_times : Raw K mg "_law_times" s__law_times := ⟨_, _, fun_mk (st := s__law_times) l__law_times c__law_times k__law_times, PySem.W.mg_of X G a__law_times⟩
  have D__law_times := d__law_times (P := l.prog) (w := w) (base := base) R__law_times  D__law_num
  have R__law_dot : Raw K mg "_law_dot" s__law_dot := ⟨_, _, fun_mk (st := s__law_dot) l__law_dot c__law_dot k__law_dot, PySem.W.mg_of X G a__law_dot⟩
  have D__law_dot := d__law_dot (P := l.prog) (w := w) (base := base) R__law_dot B D__law_plus D__law_times
  have R__law_led : Raw K mg "_law_led" s__law_led := ⟨_, _, fun_mk (st := s__law_led) l__law_led c__law_led k__law_led, PySem.W.mg_of X G a__law_led⟩
  have D__law_led := d__law_led (P := l.prog) (w := w) (base := base) R__law_led B D__law_dot
  have R_is_field : Raw K mg "is_field" s_is_field := ⟨_, _, fun_mk (st := s_is_field) l_is_field c_is_field k_is_field, PySem.W.mg_of X G a_is_field⟩
  have D_is_field := d_is_field (P := l.prog) (w := w) (base := base) R_is_field TF 
  have R_check_field : Raw K mg "check_field" s_check_field := ⟨_, _, fun_mk (st := s_check_field) l_check_field c_check_field k_check_field, PySem.W.mg_of X G a_check_field⟩
  have D_check_field := d_check_field (P := l.prog) (w := w) (base := base) (CW := (CW, CM)) (fI := fI) (fJ := fI) R_check_field  D_is_field E_BadField G_init
  have R_check_lengths : Raw K mg "check_lengths" s_check_lengths := ⟨_, _, fun_mk (st := s_check_lengths) l_check_lengths c_check_lengths k_check_lengths, PySem.W.mg_of X G a_check_lengths⟩
  have D_check_lengths := d_check_lengths (P := l.prog) (w := w) (base := base) (CW := (CW, CM)) (fI := fI) (fJ := fI) R_check_lengths B  E_BadShape G_init
  have R_fits : Raw K mg "fits" s_fits := ⟨_, _, fun_mk (st := s_fits) l_fits c_fits k_fits, PySem.W.mg_of X G a_fits⟩
  have D_fits := d_fits (P := l.prog) (w := w) (base := base) R_fits B 
  have R_check_numbers : Raw K mg "check_numbers" s_check_numbers := ⟨_, _, fun_mk (st := s_check_numbers) l_check_numbers c_check_numbers k_check_numbers, PySem.W.mg_of X G a_check_numbers⟩
  have D_check_numbers := d_check_numbers (P := l.prog) (w := w) (base := base) (CW := (CW, CM)) (fI := fI) (fJ := fI) R_check_numbers B D_fits E_BadNumber G_init
  have R_check_row_numbers : Raw K mg "check_row_numbers" s_check_row_numbers := ⟨_, _, fun_mk (st := s_check_row_numbers) l_check_row_numbers c_check_row_numbers k_check_row_numbers, PySem.W.mg_of X G a_check_row_numbers⟩
  have D_check_row_numbers := d_check_row_numbers (P := l.prog) (w := w) (base := base) (CW := (CW, CM)) (fI := fI) (fJ := fI) R_check_row_numbers B D_check_numbers 
  have R_added : Raw K mg "added" s_added := ⟨_, _, fun_mk (st := s_added) l_added c_added k_added, PySem.W.mg_of X G a_added⟩
  have D_added := d_added (P := l.prog) (w := w) (base := base) R_added B 
  have R_inverse : Raw K mg "inverse" s_inverse := ⟨_, _, fun_mk (st := s_inverse) l_inverse c_inverse k_inverse, PySem.W.mg_of X G a_inverse⟩
  have D_inverse := d_inverse (P := l.prog) (w := w) (base := base) R_inverse B 
  have R_lowest : Raw K mg "lowest" s_lowest := ⟨_, _, fun_mk (st := s_lowest) l_lowest c_lowest k_lowest, PySem.W.mg_of X G a_lowest⟩
  have D_lowest := d_lowest (P := l.prog) (w := w) (base := base) R_lowest B D_inverse
  have R_multiplied : Raw K mg "multiplied" s_multiplied := ⟨_, _, fun_mk (st := s_multiplied) l_multiplied c_multiplied k_multiplied, PySem.W.mg_of X G a_multiplied⟩
  have D_multiplied := d_multiplied (P := l.prog) (w := w) (base := base) R_multiplied  D_lowest
  have R_paired : Raw K mg "paired" s_paired := ⟨_, _, fun_mk (st := s_paired) l_paired c_paired k_paired, PySem.W.mg_of X G a_paired⟩
  have D_paired := d_paired (P := l.prog) (w := w) (base := base) R_paired B TN D_added D_multiplied
  have R_led : Raw K mg "led" s_led := ⟨_, _, fun_mk (st := s_led) l_led c_led k_led, PySem.W.mg_of X G a_led⟩
  have D_led := d_led (P := l.prog) (w := w) (base := base) R_led B D_paired
  have R_lead : Raw K mg "lead" s_lead := ⟨_, _, fun_mk (st := s_lead) l_lead c_lead k_lead, PySem.W.mg_of X G a_lead⟩
  have D_lead := d_lead (P := l.prog) (w := w) (base := base) (CW := (CW, CM)) (fI := fI) (fJ := fI) R_lead B D_check_field D_check_lengths D_check_row_numbers D_check_numbers D_led 
  have R_turned : Raw K mg "turned" s_turned := ⟨_, _, fun_mk (st := s_turned) l_turned c_turned k_turned, PySem.W.mg_of X G a_turned⟩
  have D_turned := d_turned (P := l.prog) (w := w) (base := base) R_turned B 
  have R_joined : Raw K mg "joined" s_joined := ⟨_, _, fun_mk (st := s_joined) l_joined c_joined k_joined, PySem.W.mg_of X G a_joined⟩
  have D_joined := d_joined (P := l.prog) (w := w) (base := base) R_joined B D_turned D_led
  have R_row_length : Raw K mg "row_length" s_row_length := ⟨_, _, fun_mk (st := s_row_length) l_row_length c_row_length k_row_length, PySem.W.mg_of X G a_row_length⟩
  have D_row_length := d_row_length (P := l.prog) (w := w) (base := base) R_row_length B 
  have R_behind : Raw K mg "behind" s_behind := ⟨_, _, fun_mk (st := s_behind) l_behind c_behind k_behind, PySem.W.mg_of X G a_behind⟩
  have D_behind := d_behind (P := l.prog) (w := w) (base := base) (CW := (CW, CM)) (fI := fI) (fJ := fI) R_behind B D_check_field D_check_lengths D_check_row_numbers D_joined D_row_length 
  have R__law_numbers : Raw K mg "_law_numbers" s__law_numbers := ⟨_, _, fun_mk (st := s__law_numbers) l__law_numbers c__law_numbers k__law_numbers, PySem.W.mg_of X G a__law_numbers⟩
  have D__law_numbers := d__law_numbers (P := l.prog) (w := w) (base := base) R__law_numbers B D__law_int D__law_is_number
  have b__law_behind_so := (fun_mk (st := s__law_behind_so) l__law_behind_so c__law_behind_so k__law_behind_so).binds (ps := ["_law_box", "_law_field_here", "_law_table_here", "_law_other"]) fun _ _ _ _ _ _ us hl => match us, hl with | [_, _, _, _], _ => rfl
  have D__law_behind_so := d__law_behind_so (P := l.prog) (w := w) (base := base) (CW := (CW, CM)) l__law_behind_so c__law_behind_so (PySem.W.mg_of X G a__law_behind_so) k__law_behind_so b__law_behind_so TB__law_behind_so hTL__law_behind_so huL__law_behind_so W mW mM B True.intro D__law_behind_word D__law_row D_lead D__law_led D_behind D__law_numbers
  have R_still_table : Raw K mg "still_table" s_still_table := ⟨_, _, fun_mk (st := s_still_table) l_still_table c_still_table k_still_table, PySem.W.mg_of X G a_still_table⟩
  have D_still_table := d_still_table (P := l.prog) (w := w) (base := base) R_still_table B TN TO 
  have R_still : Raw K mg "still" s_still := ⟨_, _, fun_mk (st := s_still) l_still c_still k_still, PySem.W.mg_of X G a_still⟩
  have D_still := d_still (P := l.prog) (w := w) (base := base) (CW := (CW, CM)) (fI := fI) (fJ := fI) R_still B D_check_field D_still_table 
  have R__law_still_so : Raw K mg "_law_still_so" s__law_still_so := ⟨_, _, fun_mk (st := s__law_still_so) l__law_still_so c__law_still_so k__law_still_so, PySem.W.mg_of X G a__law_still_so⟩
  have D__law_still_so := d__law_still_so (P := l.prog) (w := w) (base := base) R__law_still_so B D__law_row ⟨D__law_like, m__law_like, k__law_like, b__law_like⟩ D_still D_lead
  exact law_ok (CW := (CW, CM)) l_law c_law TB hTL huL B W mW mM D__law_open D__law_field D__law_bent_table D__law_row D__law_lead_word D__law_draw D__law_table ⟨D__law_like, m__law_like, k__law_like, b__law_like⟩ D__law_behind_word True.intro D__law_led D__law_behind_so D__law_still_so D__law_odd_pair D_still D_lead D_behind
end St
open PySem PySem.W PyProof.Rows
set_option maxRecDepth 100000 in
set_option maxHeartbeats 0 in
theorem PySem.Challenge.cw_stalkweb_k04_tables_that_lead_holds : PySem.Challenge.rw_stalkweb_k04_tables_that_lead.Holds := by
  w_on; o_law; k_head; (case hw => w_witness2)
  k_fill
  refine LamX.walk_ofOwns (l := PySem.Challenge.rw_stalkweb_k04_tables_that_lead) (n := 63) (k := 13) (x := "_law_script") (CX := fun _ => L2.CX0) ["law", "_law_behind_so"] rfl (by decide) rfl ⟨rfl, by decide, by decide⟩ (by decide +kernel) (fun w h Y => PySem.W.km_in_of Y) ?F (fun _ _ _ _ _ h => h)
  case F =>
    intro w mg fa h Y KX G hmg OT
    refine' St.all_mk KX G hmg OT ?a_WebError ?a_Missing ?s_W ?i_W ?y_W ?s_M ?i_M ?y_M ?a__law_open ?l__law_open ?c__law_open ?k__law_open ?a__law_draw ?l__law_draw ?c__law_draw ?k__law_draw ?a__law_any ?l__law_any ?c__law_any ?k__law_any ?a__law_primes ?l__law_primes ?c__law_primes ?k__law_primes ?a__law_field ?l__law_field ?c__law_field ?k__law_field ?a__law_odd_pair ?l__law_odd_pair ?c__law_odd_pair ?k__law_odd_pair ?a__law_bent_table ?l__law_bent_table ?c__law_bent_table ?k__law_bent_table ?a__law_gcd ?l__law_gcd ?c__law_gcd ?k__law_gcd ?a__law_num ?l__law_num ?c__law_num ?k__law_num ?a__law_number ?l__law_number ?c__law_number ?k__law_number ?a__law_row ?l__law_row ?c__law_row ?k__law_row ?a__law_is_number ?l__law_is_number ?c__law_is_number ?k__law_is_number ?a__law_numbers_good ?l__law_numbers_good ?c__law_numbers_good ?k__law_numbers_good ?a__law_lead_word ?l__law_lead_word ?c__law_lead_word ?k__law_lead_word ?a__law_table ?l__law_table ?c__law_table ?k__law_table ?a__law_int ?l__law_int ?c__law_int ?k__law_int ?a__law_like ?l__law_like ?c__law_like ?k__law_like ?a__law_behind_word ?l__law_behind_word ?c__law_behind_word ?k__law_behind_word ?a__law_why ?l__law_why ?c__law_why ?k__law_why ?a__law_plus ?l__law_plus ?c__law_plus ?k__law_plus ?a__law_times ?l__law_times ?c__law_times ?k__law_times ?a__law_dot ?l__law_dot ?c__law_dot ?k__law_dot ?a__law_led ?l__law_led ?c__law_led ?k__law_led ?a_is_field ?l_is_field ?c_is_field ?k_is_field ?a_check_field ?l_check_field ?c_check_field ?k_check_field ?a_check_lengths ?l_check_lengths ?c_check_lengths ?k_check_lengths ?a_fits ?l_fits ?c_fits ?k_fits ?a_check_numbers ?l_check_numbers ?c_check_numbers ?k_check_numbers ?a_check_row_numbers ?l_check_row_numbers ?c_check_row_numbers ?k_check_row_numbers ?a_added ?l_added ?c_added ?k_added ?a_inverse ?l_inverse ?c_inverse ?k_inverse ?a_lowest ?l_lowest ?c_lowest ?k_lowest ?a_multiplied ?l_multiplied ?c_multiplied ?k_multiplied ?a_paired ?l_paired ?c_paired ?k_paired ?a_led ?l_led ?c_led ?k_led ?a_lead ?l_lead ?c_lead ?k_lead ?a_turned ?l_turned ?c_turned ?k_turned ?a_joined ?l_joined ?c_joined ?k_joined ?a_row_length ?l_row_length ?c_row_length ?k_row_length ?a_behind ?l_behind ?c_behind ?k_behind ?a__law_numbers ?l__law_numbers ?c__law_numbers ?k__law_numbers ?a__law_behind_so ?l__law_behind_so ?c__law_behind_so ?k__law_behind_so ?a_still_table ?l_still_table ?c_still_table ?k_still_table ?a_still ?l_still ?c_still ?k_still ?a__law_still_so ?l__law_still_so ?c__law_still_so ?k__law_still_so ?a_law ?l_law ?c_law ?k_law ?z_len ?z_range ?z_all ?z_abs ?z_list ?z_isinstance ?z_int ?z_bool ?z_str ?z_tuple ?z_zip ?z_enumerate ?z_reversed ?z_any ?z_sorted ?z_sum ?z_min ?z_set ?z_ValueError ?z_gcd ?a_FIELDS ?l_FIELDS ?v_FIELDS ?a_NOUGHT ?l_NOUGHT ?v_NOUGHT ?a_ONE ?l_ONE ?v_ONE ?l_code ?v_11 ?v_g11 ?v_18 ?v_7 ?v_9 ?v_10 ?n_cP ?n_PT ?l_code__law_behind_so ?v_11__law_behind_so ?v_g11__law_behind_so ?v_18__law_behind_so ?v_7__law_behind_so ?v_9__law_behind_so ?v_10__law_behind_so ?n_cP__law_behind_so ?n_PT__law_behind_so ?n_PP0_1 ?n_PP1_0 ?i_I ?l_I ?c_I ?k_I ?y_I ?t_I ?v_VI ?n_cg ?t_cg ?a_BadField ?x_BadField ?r_BadField ?w_BadField ?n_BadField ?sa_BadField ?ga_BadField ?gg_BadField ?xc_BadField ?y_BadField ?k_BadField ?d_BadField ?c_BadField ?m_BadField ?rd_BadField ?f_BadField ?o_BadField ?i_BadField ?s_BadField ?a_BadNumber ?x_BadNumber ?r_BadNumber ?w_BadNumber ?n_BadNumber ?sa_BadNumber ?ga_BadNumber ?gg_BadNumber ?xc_BadNumber ?y_BadNumber ?k_BadNumber ?d_BadNumber ?c_BadNumber ?m_BadNumber ?rd_BadNumber ?f_BadNumber ?o_BadNumber ?i_BadNumber ?s_BadNumber ?a_BadShape ?x_BadShape ?r_BadShape ?w_BadShape ?n_BadShape ?sa_BadShape ?ga_BadShape ?gg_BadShape ?xc_BadShape ?y_BadShape ?k_BadShape ?d_BadShape ?c_BadShape ?m_BadShape ?rd_BadShape ?f_BadShape ?o_BadShape ?i_BadShape ?s_BadShape
    (case a__law_open => k_is)
    (case a__law_draw => k_is)
    (case a__law_any => k_is)
    (case a__law_primes => k_is)
    (case a__law_field => k_is)
    (case a__law_odd_pair => k_is)
    (case a__law_bent_table => k_is)
    (case a__law_gcd => k_is)
    (case a__law_num => k_is)
    (case a__law_number => k_is)
    (case a__law_row => k_is)
    (case a__law_is_number => k_is)
    (case a__law_numbers_good => k_is)
    (case a__law_lead_word => k_is)
    (case a__law_table => k_is)
    (case a__law_int => k_is)
    (case a__law_like => k_is)
    (case a__law_behind_word => k_is)
    (case a__law_why => k_is)
    (case a__law_plus => k_is)
    (case a__law_times => k_is)
    (case a__law_dot => k_is)
    (case a__law_led => k_is)
    (case a_is_field => k_is)
    (case a_check_field => k_is)
    (case a_check_lengths => k_is)
    (case a_fits => k_is)
    (case a_check_numbers => k_is)
    (case a_check_row_numbers => k_is)
    (case a_added => k_is)
    (case a_inverse => k_is)
    (case a_lowest => k_is)
    (case a_multiplied => k_is)
    (case a_paired => k_is)
    (case a_led => k_is)
    (case a_lead => k_is)
    (case a_turned => k_is)
    (case a_joined => k_is)
    (case a_row_length => k_is)
    (case a_behind => k_is)
    (case a__law_numbers => k_is)
    (case a__law_behind_so => k_is)
    (case a_still_table => k_is)
    (case a_still => k_is)
    (case a__law_still_so => k_is)
    (case a_law => k_is)
    (case a_FIELDS => k_is)
    (case a_NOUGHT => k_is)
    (case a_ONE => k_is)
    (case a_WebError => k_is)
    (case a_Missing => k_is)
    (case a_BadField => k_is)
    (case a_BadNumber => k_is)
    (case a_BadShape => k_is)
    (case l__law_open => k_is)
    (case c__law_open => k_is)
    (case k__law_open => k_is)
    (case l__law_draw => k_is)
    (case c__law_draw => k_is)
    (case k__law_draw => k_is)
    (case l__law_any => k_is)
    (case c__law_any => k_is)
    (case k__law_any => k_is)
    (case l__law_primes => k_is)
    (case c__law_primes => k_is)
    (case k__law_primes => k_is)
    (case l__law_field => k_is)
    (case c__law_field => k_is)
    (case k__law_field => k_is)
    (case l__law_odd_pair => k_is)
    (case c__law_odd_pair => k_is)
    (case k__law_odd_pair => k_is)
    (case l__law_bent_table => k_is)
    (case c__law_bent_table => k_is)
    (case k__law_bent_table => k_is)
    (case l__law_gcd => k_is)
    (case c__law_gcd => k_is)
    (case k__law_gcd => k_is)
    (case l__law_num => k_is)
    (case c__law_num => k_is)
    (case k__law_num => k_is)
    (case l__law_number => k_is)
    (case c__law_number => k_is)
    (case k__law_number => k_is)
    (case l__law_row => k_is)
    (case c__law_row => k_is)
    (case k__law_row => k_is)
    (case l__law_is_number => k_is)
    (case c__law_is_number => k_is)
    (case k__law_is_number => k_is)
    (case l__law_numbers_good => k_is)
    (case c__law_numbers_good => k_is)
    (case k__law_numbers_good => k_is)
    (case l__law_lead_word => k_is)
    (case c__law_lead_word => k_is)
    (case k__law_lead_word => k_is)
    (case l__law_table => k_is)
    (case c__law_table => k_is)
    (case k__law_table => k_is)
    (case l__law_int => k_is)
    (case c__law_int => k_is)
    (case k__law_int => k_is)
    (case l__law_like => k_is)
    (case c__law_like => k_is)
    (case k__law_like => k_is)
    (case l__law_behind_word => k_is)
    (case c__law_behind_word => k_is)
    (case k__law_behind_word => k_is)
    (case l__law_why => k_is)
    (case c__law_why => k_is)
    (case k__law_why => k_is)
    (case l__law_plus => k_is)
    (case c__law_plus => k_is)
    (case k__law_plus => k_is)
    (case l__law_times => k_is)
    (case c__law_times => k_is)
    (case k__law_times => k_is)
    (case l__law_dot => k_is)
    (case c__law_dot => k_is)
    (case k__law_dot => k_is)
    (case l__law_led => k_is)
    (case c__law_led => k_is)
    (case k__law_led => k_is)
    (case l_is_field => k_is)
    (case c_is_field => k_is)
    (case k_is_field => k_is)
    (case l_check_field => k_is)
    (case c_check_field => k_is)
    (case k_check_field => k_is)
    (case l_check_lengths => k_is)
    (case c_check_lengths => k_is)
    (case k_check_lengths => k_is)
    (case l_fits => k_is)
    (case c_fits => k_is)
    (case k_fits => k_is)
    (case l_check_numbers => k_is)
    (case c_check_numbers => k_is)
    (case k_check_numbers => k_is)
    (case l_check_row_numbers => k_is)
    (case c_check_row_numbers => k_is)
    (case k_check_row_numbers => k_is)
    (case l_added => k_is)
    (case c_added => k_is)
    (case k_added => k_is)
    (case l_inverse => k_is)
    (case c_inverse => k_is)
    (case k_inverse => k_is)
    (case l_lowest => k_is)
    (case c_lowest => k_is)
    (case k_lowest => k_is)
    (case l_multiplied => k_is)
    (case c_multiplied => k_is)
    (case k_multiplied => k_is)
    (case l_paired => k_is)
    (case c_paired => k_is)
    (case k_paired => k_is)
    (case l_led => k_is)
    (case c_led => k_is)
    (case k_led => k_is)
    (case l_lead => k_is)
    (case c_lead => k_is)
    (case k_lead => k_is)
    (case l_turned => k_is)
    (case c_turned => k_is)
    (case k_turned => k_is)
    (case l_joined => k_is)
    (case c_joined => k_is)
    (case k_joined => k_is)
    (case l_row_length => k_is)
    (case c_row_length => k_is)
    (case k_row_length => k_is)
    (case l_behind => k_is)
    (case c_behind => k_is)
    (case k_behind => k_is)
    (case l__law_numbers => k_is)
    (case c__law_numbers => k_is)
    (case k__law_numbers => k_is)
    (case l__law_behind_so => k_is)
    (case c__law_behind_so => k_is)
    (case k__law_behind_so => k_is)
    (case l_still_table => k_is)
    (case c_still_table => k_is)
    (case k_still_table => k_is)
    (case l_still => k_is)
    (case c_still => k_is)
    (case k_still => k_is)
    (case l__law_still_so => k_is)
    (case c__law_still_so => k_is)
    (case k__law_still_so => k_is)
    (case l_law => k_is)
    (case c_law => k_is)
    (case k_law => k_is)
    (case z_len => k_is)
    (case z_range => k_is)
    (case z_all => k_is)
    (case z_abs => k_is)
    (case z_list => k_is)
    (case z_isinstance => k_is)
    (case z_int => k_is)
    (case z_bool => k_is)
    (case z_str => k_is)
    (case z_tuple => k_is)
    (case z_zip => k_is)
    (case z_enumerate => k_is)
    (case z_reversed => k_is)
    (case z_any => k_is)
    (case z_sorted => k_is)
    (case z_sum => k_is)
    (case z_min => k_is)
    (case z_set => k_is)
    (case z_ValueError => k_is)
    (case z_gcd => k_is)
    (case l_FIELDS => k_is)
    (case l_NOUGHT => k_is)
    (case l_ONE => k_is)
    (case l_code => k_is)
    (case l_code__law_behind_so => k_is)
    (case i_I => k_is)
    (case l_I => k_is)
    (case c_I => k_is)
    (case k_I => k_is)
    (case y_I => k_is)
    (case v_VI => k_is)
    (case s_W => k_is)
    (case i_W => k_is)
    (case y_W => k_is)
    (case s_M => k_is)
    (case i_M => k_is)
    (case y_M => k_is)
    (case n_cg => k_is)
    (case t_cg => k_is)
    (case x_BadField => k_is)
    (case sa_BadField => k_is)
    (case ga_BadField => k_is)
    (case gg_BadField => k_is)
    (case xc_BadField => k_is)
    (case y_BadField => k_is)
    (case k_BadField => k_is)
    (case d_BadField => k_is)
    (case c_BadField => k_is)
    (case m_BadField => k_is)
    (case rd_BadField => k_is)
    (case f_BadField => k_is)
    (case o_BadField => k_is)
    (case i_BadField => k_is)
    (case s_BadField => k_is)
    (case x_BadNumber => k_is)
    (case sa_BadNumber => k_is)
    (case ga_BadNumber => k_is)
    (case gg_BadNumber => k_is)
    (case xc_BadNumber => k_is)
    (case y_BadNumber => k_is)
    (case k_BadNumber => k_is)
    (case d_BadNumber => k_is)
    (case c_BadNumber => k_is)
    (case m_BadNumber => k_is)
    (case rd_BadNumber => k_is)
    (case f_BadNumber => k_is)
    (case o_BadNumber => k_is)
    (case i_BadNumber => k_is)
    (case s_BadNumber => k_is)
    (case x_BadShape => k_is)
    (case sa_BadShape => k_is)
    (case ga_BadShape => k_is)
    (case gg_BadShape => k_is)
    (case xc_BadShape => k_is)
    (case y_BadShape => k_is)
    (case k_BadShape => k_is)
    (case d_BadShape => k_is)
    (case c_BadShape => k_is)
    (case m_BadShape => k_is)
    (case rd_BadShape => k_is)
    (case f_BadShape => k_is)
    (case o_BadShape => k_is)
    (case i_BadShape => k_is)
    (case s_BadShape => k_is)
    (case v_FIELDS => repeat (first | exact .nil | refine .cons ⟨_, rfl⟩ ?_))
    (case v_NOUGHT => repeat (first | exact .nil | refine .cons ⟨_, rfl⟩ ?_))
    (case v_ONE => repeat (first | exact .nil | refine .cons ⟨_, rfl⟩ ?_))
    (case v_11 => rfl)
    (case v_g11 => rfl)
    (case v_18 => rfl)
    (case v_7 => rfl)
    (case v_9 => rfl)
    (case v_10 => rfl)
    (case n_cP => decide)
    (case n_PT => first | rfl | k_is | decide +kernel)
    (case v_11__law_behind_so => rfl)
    (case v_g11__law_behind_so => rfl)
    (case v_18__law_behind_so => rfl)
    (case v_7__law_behind_so => rfl)
    (case v_9__law_behind_so => rfl)
    (case v_10__law_behind_so => rfl)
    (case n_cP__law_behind_so => decide)
    (case n_PT__law_behind_so => first | rfl | k_is | decide +kernel)
    (case n_PP0_1 => decide)
    (case n_PP1_0 => decide)
    (case t_I => exact .inr ⟨by simp, _, _, _, _, rfl, (by k_is), rfl, .cons ⟨_, rfl⟩ .nil⟩)
    (case r_BadField => decide +kernel)
    (case w_BadField => decide +kernel)
    (case n_BadField => decide +kernel)
    (case r_BadNumber => decide +kernel)
    (case w_BadNumber => decide +kernel)
    (case n_BadNumber => decide +kernel)
    (case r_BadShape => decide +kernel)
    (case w_BadShape => decide +kernel)
    (case n_BadShape => decide +kernel)
