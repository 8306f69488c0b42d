import PyProof.Rows.All
import Wide.All
import OpenK.AllK
import Wide.FinOn
import HandS.ForMost
import HandS.ForExc
import HandS.Gcd
import HandS.Wide
import HandS.NoneIn
import HandS.Defaults
import HandS.Conv
import HandS.Style
import HandS.Zip
import HandS.Walk
import KE.GoesNew
import HandS.IsInst
import HandS.ExcInit
import HandS.ExcIs
import HandS.ExcField
import HandS.TryMany
import HandS.Lambda
import HandS.EndTab
import HandS.EndOwn
import KE.KTypeName
import PySem.Challenge.RW_stalkweb_k37_views_of_webs
import PyProof.Rows.SortShellAny
import HandS.SortRule
import HandS.SetFor
import HandS.Strs
import KE.GoesEnum
import HandS.Iter
import HandS.TupMul
import HandS.TupAny
import KE.KTupSum
import KE.KExcInit
import HandS.Style
set_option Elab.async false
set_option linter.all false
set_option maxRecDepth 100000
set_option maxHeartbeats 4000000
/-! Numbers of a field, in plain Lean: pairs as the program reckons them, and the field that they encode. -/
namespace St
open Lean.Grind
/-! ### the program's reckoning -/
abbrev Pr := Int × Int
def primesN : List Nat := [2, 3, 5, 7, 11, 13, 17, 19, 23, 29, 31, 37, 41, 43, 47, 53, 59, 61, 67, 71, 73, 79, 83, 89, 97]
def IsF (f : Int) : Prop := f = 0 ∨ ∃ p ∈ primesN, f = (p : Int)
def IsN (f : Int) (q : Pr) : Prop := (f = 0 ∧ 1 ≤ q.2 ∧ Int.gcd q.1 q.2 = 1) ∨ (f ≠ 0 ∧ q.2 = 1 ∧ 0 ≤ q.1 ∧ q.1 < f)
/-- the n-fold product, by steps -/
def powm (p b : Int) : Nat → Int
  | 0 => 1
  | n + 1 => powm p b n * b % p
def powN (p b : Nat) : Nat → Nat
  | 0 => 1
  | n + 1 => powN p b n * b % p
theorem powm_cast (p b : Nat) : ∀ n, powm p b n = (powN p b n : Int)
  | 0 => rfl
  | n + 1 => by
    show powm p b n * b % p = ((powN p b n * b % p : Nat) : Int)
    rw [powm_cast p b n]
    simp
def gOf (t b : Int) : Int := if b < 0 then -((Nat.gcd t.natAbs b.natAbs : Nat) : Int) else ((Nat.gcd t.natAbs b.natAbs : Nat) : Int)
def low (f t b : Int) : Pr := if f ≠ 0 then (t % f * powm f (b % f) (f - 2).toNat % f, 1) else (t.fdiv (gOf t b), b.fdiv (gOf t b))
def addN (f : Int) (p q : Pr) : Pr := if f ≠ 0 then ((p.1 + q.1) % f, 1) else low f (p.1 * q.2 + q.1 * p.2) (p.2 * q.2)
def mulN (f : Int) (p q : Pr) : Pr := if f ≠ 0 then (p.1 * q.1 % f, 1) else low f (p.1 * q.1) (p.2 * q.2)
def negN (f : Int) (p : Pr) : Pr := if f ≠ 0 then (-p.1 % f, 1) else (-p.1, p.2)
def invN (f : Int) (p : Pr) : Pr := low f p.2 p.1
/-! ### a field made of a commutative ring and inverses -/
def mkZpow {F : Type} [CommRing F] (inv : F → F) (a : F) : Int → F
  | .ofNat n => a ^ n
  | .negSucc n => inv (a ^ (n + 1))
theorem inv_uniq {F : Type} [CommRing F] {a b c : F} (h1 : a * b = 1) (h2 : a * c = 1) : b = c := by grind
section
variable {F : Type} [R : CommRing F] (inv : F → F)
theorem inv_one' (h01 : (0 : F) ≠ 1) (hm : ∀ a : F, a ≠ 0 → a * inv a = 1) : inv 1 = 1 := by
  have h := hm 1 (fun e => h01 e.symm)
  rw [Semiring.one_mul] at h
  exact h
theorem inv_inv' (h01 : (0 : F) ≠ 1) (h0 : inv 0 = 0) (hm : ∀ a : F, a ≠ 0 → a * inv a = 1) (a : F) : inv (inv a) = a := by
  by_cases ha : a = 0
  · rw [ha, h0, h0]
  · have h1 := hm a ha
    have hne : inv a ≠ 0 := fun e => by
      rw [e] at h1
      grind
    have h2 := hm (inv a) hne
    exact inv_uniq (a := inv a) h2 (by grind)
theorem zpow_neg' (h01 : (0 : F) ≠ 1) (h0 : inv 0 = 0) (hm : ∀ a : F, a ≠ 0 → a * inv a = 1) (a : F) (n : Int) : mkZpow inv a (-n) = inv (mkZpow inv a n) := by
  match n with
  | .ofNat 0 =>
    have e : a ^ 0 = 1 := Semiring.pow_zero a
    show a ^ 0 = inv (a ^ 0)
    rw [e, inv_one' inv h01 hm]
  | .ofNat (k + 1) => rfl
  | .negSucc k =>
    show a ^ (k + 1) = inv (inv (a ^ (k + 1)))
    rw [inv_inv' inv h01 h0 hm]
end
@[reducible] def mkField {F : Type} (R : CommRing F) (inv : F → F) (h01 : (0 : F) ≠ 1) (h0 : inv 0 = 0) (hm : ∀ a : F, a ≠ 0 → a * inv a = 1) : Field F :=
  letI z : HPow F Int F := ⟨fun a n => mkZpow inv a n⟩
  { R with
    inv := inv
    div := fun a b => a * inv b
    zpow := z
    div_eq_mul_inv := fun _ _ => rfl
    zero_ne_one := h01
    inv_zero := h0
    mul_inv_cancel := fun {a} ha => hm a ha
    zpow_zero := fun a => Semiring.pow_zero a
    zpow_succ := fun a n => Semiring.pow_succ a n
    zpow_neg := fun a n => zpow_neg' inv h01 h0 hm a n }
/-! ### the field of a number f -/
structure Fd (f : Int) where
  F : Type
  fld : Field F
  dec : DecidableEq F
  enc : F → Pr
  inj : ∀ x y, enc x = enc y → x = y
  num : ∀ x, IsN f (enc x)
  sur : ∀ p, IsN f p → ∃ x, enc x = p
  zero : enc 0 = (0, 1)
  one : enc 1 = (1, 1)
  add : ∀ x y, enc (x + y) = addN f (enc x) (enc y)
  mul : ∀ x y, enc (x * y) = mulN f (enc x) (enc y)
  neg : ∀ x, enc (-x) = negN f (enc x)
  inv : ∀ x, x ≠ 0 → enc (x⁻¹) = invN f (enc x)
  /-- whole numbers -/
  ofI : Int → F
  low : ∀ t b, ofI b ≠ 0 → enc (ofI t * (ofI b)⁻¹) = low f t b
  ofI0 : ∀ b, ofI b = 0 ↔ (if f = 0 then b = 0 else b % f = 0)
  ofI_add : ∀ s t, ofI (s + t) = ofI s + ofI t
  ofI_mul : ∀ s t, ofI (s * t) = ofI s * ofI t
  ofI_one : ofI 1 = 1
  encI : ∀ z, enc (ofI z) = if f = 0 then (z, 1) else (z % f, 1)
/-! ### fractions -/
theorem low0 (t b : Int) (hb : b ≠ 0) : low 0 t b = ((Rat.divInt t b).num, ((Rat.divInt t b).den : Int)) := by
  have hg : (Nat.gcd t.natAbs b.natAbs : Nat) ≠ 0 := by
    intro h
    rw [Nat.gcd_eq_zero_iff] at h
    omega
  have h1 : ((Nat.gcd t.natAbs b.natAbs : Nat) : Int) ∣ t := by
    rw [Int.ofNat_dvd_left]
    exact Nat.gcd_dvd_left _ _
  have h2 : ((Nat.gcd t.natAbs b.natAbs : Nat) : Int) ∣ b := by
    rw [Int.ofNat_dvd_left]
    exact Nat.gcd_dvd_right _ _
  have e : b.gcd t = Nat.gcd t.natAbs b.natAbs := by rw [Int.gcd_comm]; rfl
  rw [Rat.num_divInt, Rat.den_divInt, if_neg hb, e]
  show (if (0 : Int) ≠ 0 then _ else (t.fdiv (gOf t b), b.fdiv (gOf t b))) = _
  rw [if_neg (by simp)]
  unfold gOf
  generalize Nat.gcd t.natAbs b.natAbs = g at *
  obtain ⟨u, hu⟩ := h1
  obtain ⟨v, hv⟩ := h2
  have hg' : (g : Int) ≠ 0 := by omega
  have hgp : (0 : Int) < g := by omega
  subst hu
  subst hv
  have d1 : ∀ z : Int, (g * z).fdiv g = z := fun z => by rw [Int.mul_comm]; exact Int.mul_fdiv_cancel _ hg'
  have d2 : ∀ z : Int, (g * z).fdiv (-g) = -z := fun z => by
    have e : (g : Int) * z = -z * -g := by rw [Int.neg_mul_neg, Int.mul_comm]
    rw [e]
    exact Int.mul_fdiv_cancel _ (by omega)
  have hv0 : v ≠ 0 := fun h => by simp [h] at hb
  have nb : ((g * v : Int).natAbs / g : Nat) = v.natAbs := by
    rw [Int.natAbs_mul, Int.natAbs_natCast]
    exact Nat.mul_div_cancel_left _ (by omega)
  by_cases h : (g : Int) * v < 0
  · have hvn : v < 0 := by
      rcases Int.lt_or_gt_of_ne hv0 with h' | h'
      · exact h'
      · have := Int.mul_pos hgp h'
        omega
    rw [if_pos h, d2, d2, Int.sign_eq_neg_one_of_neg h, nb]
    have : -1 * (↑g * u) / (g : Int) = -u := by
      rw [show -1 * ((g : Int) * u) = g * (-u) by grind]
      exact Int.mul_ediv_cancel_left _ hg'
    rw [this]
    congr 1
    omega
  · have hvp : 0 < v := by
      rcases Int.lt_or_gt_of_ne hv0 with h' | h'
      · have := Int.mul_neg_of_pos_of_neg hgp h'
        omega
      · exact h'
    have hp : 0 < (g : Int) * v := Int.mul_pos hgp hvp
    rw [if_neg h, d1, d1, Int.sign_eq_one_of_pos hp, nb]
    have : 1 * (↑g * u) / (g : Int) = u := by
      rw [Int.one_mul]
      exact Int.mul_ediv_cancel_left _ hg'
    rw [this]
    congr 1
    omega
def encQ (r : Rat) : Pr := (r.num, (r.den : Int))
theorem encQ_low {t b : Int} (hb : b ≠ 0) : encQ (Rat.divInt t b) = low 0 t b := (low0 t b hb).symm
theorem encQ_self (r : Rat) : r = Rat.divInt r.num r.den := (Rat.num_divInt_den r).symm
theorem den_ne (r : Rat) : ((r.den : Nat) : Int) ≠ 0 := by
  have := r.den_nz
  omega
def fdQ : Fd 0 where
  F := Rat
  fld := inferInstance
  dec := inferInstance
  enc := encQ
  inj := fun x y h => by
    have h1 : x.num = y.num := congrArg Prod.fst h
    have h2 : (x.den : Int) = y.den := congrArg Prod.snd h
    exact Rat.ext h1 (by omega)
  num := fun x => Or.inl ⟨rfl, by
    have := x.den_nz
    show (1 : Int) ≤ (x.den : Int)
    omega, x.reduced⟩
  sur := fun p h => by
    rcases h with ⟨_, h1, h2⟩ | ⟨h, _⟩
    · have e : ((p.2.toNat : Nat) : Int) = p.2 := Int.toNat_of_nonneg (by omega)
      refine ⟨⟨p.1, p.2.toNat, by omega, ?_⟩, ?_⟩
      · have : p.2.natAbs = p.2.toNat := by omega
        rw [← this]
        exact h2
      · show ((p.1, ((p.2.toNat : Nat) : Int)) : Pr) = p
        rw [e]
    · exact absurd rfl h
  zero := rfl
  one := rfl
  add := fun x y => by
    have e : x + y = Rat.divInt (x.num * y.den + y.num * x.den) (x.den * y.den) := by
      conv => lhs; rw [encQ_self x, encQ_self y]
      exact Rat.divInt_add_divInt _ _ (den_ne x) (den_ne y)
    rw [e, encQ_low (Int.mul_ne_zero (den_ne x) (den_ne y))]
    rfl
  mul := fun x y => by
    have e : x * y = Rat.divInt (x.num * y.num) (x.den * y.den) := by
      conv => lhs; rw [encQ_self x, encQ_self y]
      exact Rat.divInt_mul_divInt _ _
    rw [e, encQ_low (Int.mul_ne_zero (den_ne x) (den_ne y))]
    rfl
  neg := fun x => rfl
  inv := fun x hx => by
    have e : x⁻¹ = Rat.divInt x.den x.num := by
      conv => lhs; rw [encQ_self x]
      exact Rat.inv_divInt _ _
    have hn : x.num ≠ 0 := fun h => hx (Rat.num_eq_zero.mp h)
    rw [e, encQ_low hn]
    rfl
  ofI := fun t => (t : Rat)
  low := fun t b hb => by
    have hb' : b ≠ 0 := fun h => hb (by rw [h]; rfl)
    rw [← encQ_low hb', Rat.divInt_eq_div, Rat.div_def]
  ofI0 := fun b => by simp
  ofI_add := fun s t => Rat.intCast_add s t
  ofI_mul := fun s t => Rat.intCast_mul s t
  ofI_one := rfl
  encI := fun z => by
    rw [if_pos rfl]
    rfl
/-! ### sums of fractions, by what both bottoms share -/
theorem fdiv_nat (a b : Nat) : ((a : Int).fdiv (b : Int)) = ((a / b : Nat) : Int) := by
  rw [Int.fdiv_eq_ediv_of_nonneg _ (by omega)]; rfl
def shB (p q : Pr) : Int := ((Nat.gcd p.2.natAbs q.2.natAbs : Nat) : Int)
def paB (p q : Pr) : Int := p.2.fdiv (shB p q)
def toB (p q : Pr) : Int := p.1 * q.2.fdiv (shB p q) + q.1 * paB p q
def coB (p q : Pr) : Int := ((Nat.gcd (toB p q).natAbs (shB p q).natAbs : Nat) : Int)
theorem add_lean {p q : Pr} (hp : IsN 0 p) (hq : IsN 0 q) : addN 0 p q = ((toB p q).fdiv (coB p q), paB p q * q.2.fdiv (coB p q)) := by
  obtain ⟨x, rfl⟩ : ∃ x : Rat, encQ x = p := fdQ.sur p hp
  obtain ⟨y, rfl⟩ : ∃ x : Rat, encQ x = q := fdQ.sur q hq
  have x0 := x.den_nz
  have y0 := y.den_nz
  change addN 0 (encQ x) (encQ y) = ((toB (encQ x) (encQ y)).fdiv (coB (encQ x) (encQ y)), paB (encQ x) (encQ y) * ((y.den : Int)).fdiv (coB (encQ x) (encQ y)))
  have es : shB (encQ x) (encQ y) = ((Nat.gcd x.den y.den : Nat) : Int) := by
    unfold shB encQ
    simp
  have hg0 : 0 < Nat.gcd x.den y.den := Nat.gcd_pos_of_pos_left _ (by omega)
  have hx := Nat.gcd_dvd_left x.den y.den
  have hy := Nat.gcd_dvd_right x.den y.den
  have ep : paB (encQ x) (encQ y) = ((x.den / Nat.gcd x.den y.den : Nat) : Int) := by
    unfold paB
    rw [es]
    exact fdiv_nat _ _
  have et : toB (encQ x) (encQ y) = x.num * ((y.den / Nat.gcd x.den y.den : Nat) : Int) + y.num * ((x.den / Nat.gcd x.den y.den : Nat) : Int) := by
    unfold toB
    rw [es, ep]
    show x.num * ((y.den : Int)).fdiv _ + _ = _
    rw [fdiv_nat]
    rfl
  have aux := @Rat.add.aux x y _ _ _ rfl rfl rfl
  have ec : coB (encQ x) (encQ y) = ((Nat.gcd (x.num * ((y.den / Nat.gcd x.den y.den : Nat) : Int) + y.num * ((x.den / Nat.gcd x.den y.den : Nat) : Int)).natAbs (Nat.gcd x.den y.den) : Nat) : Int) := by
    unfold coB
    rw [et, es]
    rfl
  simp only at aux
  generalize ht : x.num * ((y.den / Nat.gcd x.den y.den : Nat) : Int) + y.num * ((x.den / Nat.gcd x.den y.den : Nat) : Int) = t at *
  have hB : ((x.den / Nat.gcd x.den y.den * y.den : Nat) : Int) ≠ 0 := by
    have : 0 < x.den / Nat.gcd x.den y.den := Nat.div_pos (Nat.le_of_dvd (by omega) hx) hg0
    have := Nat.mul_pos this (by omega : 0 < y.den)
    omega
  have e1 : addN 0 (encQ x) (encQ y) = low 0 t ((x.den / Nat.gcd x.den y.den * y.den : Nat) : Int) := by
    unfold addN
    rw [if_neg (by simp)]
    have hB0 := Int.mul_ne_zero (den_ne x) (den_ne y)
    change ((encQ x).2 * (encQ y).2 : Int) ≠ 0 at hB0
    have k1 : (encQ x).1 * (encQ y).2 + (encQ y).1 * (encQ x).2 = (Nat.gcd x.den y.den : Int) * t := by
      rw [← ht]
      show x.num * (y.den : Int) + y.num * (x.den : Int) = _
      have a1 : (x.den : Int) = (Nat.gcd x.den y.den : Int) * ((x.den / Nat.gcd x.den y.den : Nat) : Int) := by
        have := Nat.mul_div_cancel' hx
        exact_mod_cast this.symm
      have a2 : (y.den : Int) = (Nat.gcd x.den y.den : Int) * ((y.den / Nat.gcd x.den y.den : Nat) : Int) := by
        have := Nat.mul_div_cancel' hy
        exact_mod_cast this.symm
      generalize ((x.den / Nat.gcd x.den y.den : Nat) : Int) = u at *
      generalize ((y.den / Nat.gcd x.den y.den : Nat) : Int) = v at *
      generalize (Nat.gcd x.den y.den : Int) = g at *
      rw [a1, a2]
      grind
    have k2 : (encQ x).2 * (encQ y).2 = (Nat.gcd x.den y.den : Int) * ((x.den / Nat.gcd x.den y.den * y.den : Nat) : Int) := by
      show (x.den : Int) * (y.den : Int) = _
      have := Nat.mul_div_cancel' hx
      have : x.den * y.den = Nat.gcd x.den y.den * (x.den / Nat.gcd x.den y.den * y.den) := by
        rw [← Nat.mul_assoc, this]
      exact_mod_cast this
    rw [low0 _ _ hB0, low0 _ _ hB, k1, k2, Rat.divInt_mul_left (by omega)]
  rw [e1]
  unfold low gOf
  rw [if_neg (by simp), if_neg (by omega)]
  show (t.fdiv ((Nat.gcd t.natAbs (x.den / Nat.gcd x.den y.den * y.den) : Nat) : Int), _) = _
  have e2 : Nat.gcd t.natAbs (x.den / Nat.gcd x.den y.den * y.den) = Nat.gcd t.natAbs (Nat.gcd x.den y.den) := aux.symm
  rw [ec, ep, et]
  have e3 : (((x.den / Nat.gcd x.den y.den * y.den : Nat)) : Int).natAbs = x.den / Nat.gcd x.den y.den * y.den := Int.natAbs_natCast _
  rw [e3, e2, fdiv_nat, fdiv_nat]
  congr 1
  have d : Nat.gcd t.natAbs (Nat.gcd x.den y.den) ∣ y.den := Nat.dvd_trans (Nat.gcd_dvd_right _ _) hy
  have := Nat.mul_div_assoc (x.den / Nat.gcd x.den y.den) d
  exact_mod_cast this
theorem fdiv_le {b s : Int} (hb : 0 ≤ b) (hs : 0 ≤ s) : (b.fdiv s).natAbs ≤ b.natAbs := by
  obtain ⟨m, rfl⟩ := Int.eq_ofNat_of_zero_le hb
  obtain ⟨n, rfl⟩ := Int.eq_ofNat_of_zero_le hs
  rw [fdiv_nat, Int.natAbs_natCast, Int.natAbs_natCast]
  exact Nat.div_le_self _ _
theorem sh_bd {p q : Pr} (hp : IsN 0 p) : 1 ≤ shB p q ∧ (shB p q).natAbs ≤ p.2.natAbs := by
  have h : 1 ≤ p.2 := by
    rcases hp with ⟨_, h, _⟩ | ⟨h, _⟩
    · exact h
    · exact absurd rfl h
  have h1 : 0 < Nat.gcd p.2.natAbs q.2.natAbs := Nat.gcd_pos_of_pos_left _ (by omega)
  have h2 := Nat.le_of_dvd (by omega) (Nat.gcd_dvd_left p.2.natAbs q.2.natAbs)
  unfold shB
  omega
theorem co_bd {p q : Pr} (hp : IsN 0 p) : 1 ≤ coB p q ∧ (coB p q).natAbs ≤ (shB p q).natAbs := by
  have h := (sh_bd (q := q) hp).1
  have h1 : 0 < Nat.gcd (toB p q).natAbs (shB p q).natAbs := Nat.gcd_pos_of_pos_right _ (by omega)
  have h2 := Nat.le_of_dvd (by omega) (Nat.gcd_dvd_right (toB p q).natAbs (shB p q).natAbs)
  unfold coB
  omega
/-! ### rests by a prime -/
theorem prime_pow : ∀ p ∈ primesN, ∀ a, a < p → a ≠ 0 → a * powN p a (p - 2) % p = 1 := by
  have h : primesN.all (fun p => (List.range p).all fun a => a == 0 || a * powN p a (p - 2) % p == 1) = true := by decide +kernel
  intro p hp a ha h0
  have h1 := List.all_eq_true.mp h p hp
  have h2 := List.all_eq_true.mp h1 a (List.mem_range.mpr ha)
  simpa [h0] using h2
theorem prime_big : ∀ p ∈ primesN, 2 ≤ p ∧ p ≤ 97 := by decide +kernel
def invF (p : Nat) [NeZero p] (a : Fin p) : Fin p := if a = 0 then 0 else Fin.ofNat p (powN p a.val (p - 2))
theorem powN_mod (p b : Nat) : ∀ n, powN p (b % p) n = powN p b n
  | 0 => rfl
  | n + 1 => by
    show powN p (b % p) n * (b % p) % p = powN p b n * b % p
    rw [powN_mod p b n]
    simp
theorem fin_ne {p : Nat} [NeZero p] {a : Fin p} (h : a ≠ 0) : a.val ≠ 0 := fun e => h (Fin.ext (by rw [e]; rfl))
theorem invF_mul {p : Nat} [NeZero p] (hp : p ∈ primesN) (a : Fin p) (ha : a ≠ 0) : a * invF p a = 1 := by
  unfold invF
  rw [if_neg ha]
  apply Fin.ext
  have h := prime_pow p hp a.val a.isLt (fin_ne ha)
  have h2 := (prime_big p hp).1
  rw [Fin.val_mul]
  show a.val * (powN p a.val (p - 2) % p) % p = (1 : Fin p).val
  rw [Nat.mul_mod_mod, h]
  show 1 = 1 % p
  rw [Nat.mod_eq_of_lt (by omega)]
theorem fin_01 {p : Nat} [NeZero p] (h : 2 ≤ p) : (0 : Fin p) ≠ 1 := by
  intro e
  have e2 : (0 : Nat) = 1 % p := congrArg Fin.val e
  rw [Nat.mod_eq_of_lt (by omega)] at e2
  cases e2
def encP (p : Nat) (x : Fin p) : Pr := ((x.val : Int), 1)
def ofP (p : Nat) [NeZero p] (t : Int) : Fin p := Fin.ofNat p (t % p).toNat
theorem ofP_val {p : Nat} [NeZero p] (hp : 2 ≤ p) (t : Int) : ((ofP p t).val : Int) = t % p := by
  show (((t % p).toNat % p : Nat) : Int) = t % p
  have h0 : (0 : Int) ≤ t % p := Int.emod_nonneg t (by omega)
  have h1 : t % (p : Int) < p := Int.emod_lt_of_pos t (by omega)
  rw [Nat.mod_eq_of_lt (by omega)]
  exact Int.toNat_of_nonneg h0
theorem ofP_eq {p : Nat} [NeZero p] (hp : 2 ≤ p) {t : Int} {x : Fin p} (h : t % p = (x.val : Int)) : ofP p t = x := by
  apply Fin.ext
  have := ofP_val hp t
  omega
theorem val_mul_int {p : Nat} (x y : Fin p) : (((x * y : Fin p).val : Nat) : Int) = (x.val : Int) * y.val % p := by
  rw [Fin.val_mul]
  simp
theorem val_add_int {p : Nat} (x y : Fin p) : (((x + y : Fin p).val : Nat) : Int) = ((x.val : Int) + y.val) % p := by
  rw [Fin.val_add]
  simp
theorem p_ne {p : Nat} (hp : 2 ≤ p) : (p : Int) ≠ 0 := by omega
theorem low_p {p : Nat} [NeZero p] (hp : 2 ≤ p) (t b : Int) (hb : ofP p b ≠ 0) : encP p (ofP p t * invF p (ofP p b)) = low p t b := by
  unfold low
  rw [if_pos (p_ne hp)]
  show ((((ofP p t * invF p (ofP p b) : Fin p).val : Nat) : Int), (1 : Int)) = _
  rw [val_mul_int, ofP_val hp]
  have e : (((invF p (ofP p b)).val : Nat) : Int) = powm p (b % p) (p - 2) % p := by
    unfold invF
    rw [if_neg hb]
    show ((powN p (ofP p b).val (p - 2) % p : Nat) : Int) = _
    have h := powm_cast p (ofP p b).val (p - 2)
    rw [ofP_val hp] at h
    rw [h]
    simp
  rw [e]
  have e2 : ((p : Int) - 2).toNat = p - 2 := by omega
  rw [e2, show ∀ a b n : Int, a * (b % n) % n = a * b % n from fun a b n => by rw [Int.mul_emod, Int.emod_emod, ← Int.mul_emod]]
def fdP (p : Nat) [NeZero p] (h : p ∈ primesN) : Fd p :=
  have hp : 2 ≤ p := (prime_big p h).1
  { F := Fin p
    fld := mkField inferInstance (invF p) (fin_01 hp) (if_pos rfl) (invF_mul h)
    dec := inferInstance
    enc := encP p
    inj := fun x y e => by
      have e1 : ((x.val : Nat) : Int) = y.val := congrArg Prod.fst e
      exact Fin.ext (by omega)
    num := fun x => Or.inr ⟨p_ne hp, rfl, by
      show (0 : Int) ≤ (x.val : Int)
      omega, by
      have := x.isLt
      show (x.val : Int) < p
      omega⟩
    sur := fun q hq => by
      rcases hq with ⟨h0, _⟩ | ⟨_, h1, h2, h3⟩
      · exact absurd h0 (p_ne hp)
      · refine ⟨ofP p q.1, ?_⟩
        show (((ofP p q.1).val : Int), (1 : Int)) = q
        rw [ofP_val hp, Int.emod_eq_of_lt h2 h3, ← h1]
    zero := rfl
    one := by
      show (((1 % p : Nat) : Int), (1 : Int)) = (1, 1)
      rw [Nat.mod_eq_of_lt (by omega)]
      rfl
    add := fun x y => by
      unfold addN
      rw [if_pos (p_ne hp)]
      show ((((x + y : Fin p).val : Nat) : Int), (1 : Int)) = _
      rw [val_add_int]
      rfl
    mul := fun x y => by
      unfold mulN
      rw [if_pos (p_ne hp)]
      show ((((x * y : Fin p).val : Nat) : Int), (1 : Int)) = _
      rw [val_mul_int]
      rfl
    neg := fun x => by
      unfold negN
      rw [if_pos (p_ne hp)]
      show ((((-x : Fin p).val : Nat) : Int), (1 : Int)) = ((-(x.val : Int)) % p, 1)
      have hx := x.isLt
      have e : ((-x : Fin p).val) = (p - x.val) % p := rfl
      rw [e, Int.natCast_emod, Int.ofNat_sub (Nat.le_of_lt hx)]
      rw [Int.sub_eq_add_neg, Int.add_comm, Int.add_emod_right]
    inv := fun x hx => by
      show encP p (invF p x) = low p 1 x.val
      have ex : ofP p (x.val : Int) = x := ofP_eq hp (Int.emod_eq_of_lt (by omega) (by have := x.isLt; omega))
      rw [← low_p hp 1 (x.val : Int) (by rw [ex]; exact hx), ex]
      have e1 : ofP p 1 = 1 := ofP_eq hp (by
        show (1 : Int) % p = ((1 % p : Nat) : Int)
        simp)
      rw [e1]
      congr 1
      exact (Semiring.one_mul _).symm
    ofI := ofP p
    low := fun t b hb => low_p hp t b hb
    ofI0 := fun b => by
      rw [if_neg (p_ne hp)]
      have := ofP_val hp b
      constructor
      · intro e
        rw [e] at this
        exact this.symm
      · intro e
        exact ofP_eq hp e
    ofI_add := fun s t => by
      apply ofP_eq hp
      show (s + t) % (p : Int) = (((ofP p s + ofP p t : Fin p).val : Nat) : Int)
      rw [val_add_int, ofP_val hp, ofP_val hp, ← Int.add_emod]
    ofI_mul := fun s t => by
      apply ofP_eq hp
      show (s * t) % (p : Int) = (((ofP p s * ofP p t : Fin p).val : Nat) : Int)
      rw [val_mul_int, ofP_val hp, ofP_val hp, ← Int.mul_emod]
    ofI_one := ofP_eq hp (by
        show (1 : Int) % p = ((1 % p : Nat) : Int)
        simp)
    encI := fun z => by
      rw [if_neg (p_ne hp)]
      show (((ofP p z).val : Int), (1 : Int)) = _
      rw [ofP_val hp] }
theorem fd_ex {f : Int} (h : IsF f) : Nonempty (Fd f) := by
  rcases h with rfl | ⟨p, hp, rfl⟩
  · exact ⟨fdQ⟩
  · have : NeZero p := ⟨by have := (prime_big p hp).1; omega⟩
    exact ⟨fdP p hp⟩
/-! ### sizes of top and bottom -/
theorem fdiv_dvd_abs {t g : Int} (h : g ∣ t) (hg : g ≠ 0) : (t.fdiv g).natAbs ≤ t.natAbs := by
  obtain ⟨u, rfl⟩ := h
  rw [Int.mul_comm, Int.mul_fdiv_cancel _ hg, Int.natAbs_mul]
  have : 1 ≤ g.natAbs := by omega
  exact Nat.le_mul_of_pos_right _ this
theorem gOf_dvd (t b : Int) : gOf t b ∣ t ∧ gOf t b ∣ b := by
  have h1 : ((Nat.gcd t.natAbs b.natAbs : Nat) : Int) ∣ t := by
    rw [Int.ofNat_dvd_left]
    exact Nat.gcd_dvd_left _ _
  have h2 : ((Nat.gcd t.natAbs b.natAbs : Nat) : Int) ∣ b := by
    rw [Int.ofNat_dvd_left]
    exact Nat.gcd_dvd_right _ _
  unfold gOf
  split
  · exact ⟨Int.neg_dvd.mpr h1, Int.neg_dvd.mpr h2⟩
  · exact ⟨h1, h2⟩
theorem low0_le {t b : Int} (hb : b ≠ 0) : (low 0 t b).1.natAbs ≤ t.natAbs ∧ (low 0 t b).2.natAbs ≤ b.natAbs := by
  have hg : gOf t b ≠ 0 := by
    have h := (gOf_dvd t b).2
    intro e
    rw [e] at h
    exact hb (Int.zero_dvd.mp h)
  unfold low
  rw [if_neg (by simp)]
  exact ⟨fdiv_dvd_abs (gOf_dvd t b).1 hg, fdiv_dvd_abs (gOf_dvd t b).2 hg⟩
theorem isN_low0 {t b : Int} (hb : b ≠ 0) : IsN 0 (low 0 t b) := by
  rw [← encQ_low hb]
  exact fdQ.num _
end St
/-! Rows over a field, in plain Lean: what rows make together, reduced rows, and that they are the only ones. -/
namespace Lin
open Lean.Grind
section
variable {F : Type} [Field F]
abbrev Vec (F : Type) := Nat → F
theorem zadd (x : F) : 0 + x = x := by grind
theorem zmul (x : F) : 0 * x = 0 := by grind
theorem mulz (x : F) : x * 0 = 0 := by grind
/-- what the rows make together -/
inductive Sp (rs : List (Vec F)) : Vec F → Prop
  | zero : Sp rs (fun _ => 0)
  | step {v r : Vec F} (c : F) : r ∈ rs → Sp rs v → Sp rs (fun j => v j + c * r j)
theorem Sp.cast {rs : List (Vec F)} {u v : Vec F} (h : Sp rs u) (e : ∀ j, u j = v j) : Sp rs v := (funext e : u = v) ▸ h
theorem Sp.gen {rs : List (Vec F)} {r : Vec F} (h : r ∈ rs) : Sp rs r := (Sp.step 1 h .zero).cast fun j => by grind
theorem Sp.add {rs : List (Vec F)} {u v : Vec F} (hu : Sp rs u) (hv : Sp rs v) : Sp rs (fun j => u j + v j) := by
  induction hv with
  | zero => exact hu.cast fun j => by grind
  | step c h _ ih => exact (ih.step c h).cast fun j => by grind
theorem Sp.mul {rs : List (Vec F)} {u : Vec F} (a : F) (hu : Sp rs u) : Sp rs (fun j => a * u j) := by
  induction hu with
  | zero => exact Sp.zero.cast fun j => by grind
  | step c h _ ih => exact (ih.step (a * c) h).cast fun j => by grind
theorem Sp.lin {rs : List (Vec F)} {u v : Vec F} (hu : Sp rs u) (a : F) (hv : Sp rs v) : Sp rs (fun j => u j + a * v j) := hu.add (hv.mul a)
theorem Sp.trans {rs ss : List (Vec F)} {v : Vec F} (g : ∀ r ∈ rs, Sp ss r) (h : Sp rs v) : Sp ss v := by
  induction h with
  | zero => exact .zero
  | step c h _ ih => exact ih.lin c (g _ h)
theorem Sp.mono {rs ss : List (Vec F)} {v : Vec F} (g : ∀ r ∈ rs, r ∈ ss) (h : Sp rs v) : Sp ss v := h.trans fun r hr => .gen (g r hr)
/-- a place that all rows leave at nought -/
theorem Sp.nought {rs : List (Vec F)} {v : Vec F} {j : Nat} (g : ∀ r ∈ rs, r j = 0) (h : Sp rs v) : v j = 0 := by
  induction h with
  | zero => rfl
  | step c h _ ih =>
    have := g _ h
    grind
/-! ### reduced rows -/
abbrev Lr (F : Type) := Nat × Vec F
structure Ech (A : List (Lr F)) : Prop where
  up : A.Pairwise fun a b => a.1 < b.1
  one : ∀ a ∈ A, a.2 a.1 = 1
  ahead : ∀ a ∈ A, ∀ j, j < a.1 → a.2 j = 0
structure Red (A : List (Lr F)) : Prop extends Ech A where
  alone : ∀ a ∈ A, ∀ b ∈ A, a.1 ≠ b.1 → a.2 b.1 = 0
abbrev rowsOf (A : List (Lr F)) : List (Vec F) := A.map (·.2)
def sumL : List (Lr F) → Vec F → Vec F
  | [], _ => fun _ => 0
  | a :: A, v => fun j => v a.1 * a.2 j + sumL A v j
theorem sumL_zero : ∀ (A : List (Lr F)) (j : Nat), sumL A (fun _ => 0) j = 0
  | [], j => rfl
  | a :: A, j => by
    have := sumL_zero A j
    show 0 * a.2 j + sumL A (fun _ => 0) j = 0
    grind
theorem sumL_lin (c : F) (u w : Vec F) : ∀ (A : List (Lr F)) (j : Nat), sumL A (fun j => u j + c * w j) j = sumL A u j + c * sumL A w j
  | [], j => by
    show (0 : F) = 0 + c * 0
    grind
  | a :: A, j => by
    have := sumL_lin c u w A j
    show (u a.1 + c * w a.1) * a.2 j + sumL A (fun j => u j + c * w j) j = (u a.1 * a.2 j + sumL A u j) + c * (w a.1 * a.2 j + sumL A w j)
    grind
theorem sumL_none {v : Vec F} {j : Nat} : ∀ {A : List (Lr F)}, (∀ a ∈ A, v a.1 * a.2 j = 0) → sumL A v j = 0
  | [], _ => rfl
  | a :: A, h => by
    have h1 := h a (List.mem_cons_self ..)
    have h2 := sumL_none fun b hb => h b (List.mem_cons_of_mem _ hb)
    show v a.1 * a.2 j + sumL A v j = 0
    grind
/-- just one of the leads is asked for -/
theorem sumL_pick {v : Vec F} {b : Lr F} : ∀ {A : List (Lr F)}, (A.Pairwise fun x y => x.1 < y.1) → b ∈ A → v b.1 = 1 → (∀ a ∈ A, a.1 ≠ b.1 → v a.1 = 0) → ∀ j, sumL A v j = b.2 j
  | [], _, h, _, _, _ => by cases h
  | a :: A, hp, hb, h1, h0, j => by
    have hp' := List.pairwise_cons.mp hp
    show v a.1 * a.2 j + sumL A v j = b.2 j
    rcases List.mem_cons.mp hb with rfl | hb'
    · have e : sumL A v j = 0 := sumL_none fun x hx => by
        have := hp'.1 x hx
        have := h0 x (List.mem_cons_of_mem _ hx) (by omega)
        grind
      grind
    · have := hp'.1 b hb'
      have e1 := h0 a (List.mem_cons_self ..) (by omega)
      have e2 := sumL_pick hp'.2 hb' h1 (fun x hx => h0 x (List.mem_cons_of_mem _ hx)) j
      grind
/-- what reduced rows make together is told by its numbers at the leads -/
theorem Red.sum {A : List (Lr F)} (R : Red A) {v : Vec F} (h : Sp (rowsOf A) v) : ∀ j, sumL A v j = v j := by
  induction h with
  | zero => exact sumL_zero A
  | step c h _ ih =>
    intro j
    obtain ⟨b, hb, rfl⟩ := List.mem_map.mp h
    rw [sumL_lin, ih j, sumL_pick R.up hb (R.one b hb) (fun a ha e => R.alone b hb a ha (fun z => e z.symm)) j]
theorem one_ne : (1 : F) ≠ 0 := fun e => Field.zero_ne_one e.symm
theorem Red.lead {A : List (Lr F)} (R : Red A) {v : Vec F} (h : Sp (rowsOf A) v) {l : Nat} (h0 : ∀ j, j < l → v j = 0) (h1 : v l ≠ 0) : ∃ a ∈ A, a.1 = l := by
  refine Classical.byContradiction fun no => h1 ?_
  rw [← R.sum h l]
  refine sumL_none fun a ha => ?_
  rcases Nat.lt_trichotomy a.1 l with h | h | h
  · have := h0 _ h
    grind
  · exact absurd ⟨a, ha, h⟩ no
  · have := R.ahead a ha l h
    grind
theorem Red.mem {A B : List (Lr F)} (RA : Red A) (RB : Red B) (ab : ∀ r ∈ rowsOf A, Sp (rowsOf B) r) (ba : ∀ r ∈ rowsOf B, Sp (rowsOf A) r) {a : Lr F} (ha : a ∈ A) : a ∈ B := by
  have key : ∀ {A B : List (Lr F)}, Red A → Red B → (∀ r ∈ rowsOf A, Sp (rowsOf B) r) → ∀ a ∈ A, ∃ b ∈ B, b.1 = a.1 := fun RA RB ab a ha =>
    RB.lead (ab _ (List.mem_map_of_mem ha)) (RA.ahead a ha) (by rw [RA.one a ha]; exact one_ne)
  obtain ⟨b, hb, e⟩ := key RA RB ab a ha
  have e2 : ∀ j, a.2 j = b.2 j := fun j => by
    rw [← RB.sum (ab _ (List.mem_map_of_mem ha)) j]
    refine sumL_pick RB.up hb (by rw [e]; exact RA.one a ha) (fun c hc ne => ?_) j
    obtain ⟨d, hd, e3⟩ := key RB RA ba c hc
    rw [← e3]
    exact RA.alone a ha d hd (by omega)
  have : a = b := Prod.ext e.symm (funext e2)
  rw [this]
  exact hb
theorem eq_of_up : ∀ {A B : List (Lr F)}, (A.Pairwise fun a b => a.1 < b.1) → (B.Pairwise fun a b => a.1 < b.1) → (∀ a ∈ A, a ∈ B) → (∀ b ∈ B, b ∈ A) → A = B
  | [], [], _, _, _, _ => rfl
  | [], b :: B, _, _, _, h => by cases h b (List.mem_cons_self ..)
  | a :: A, [], _, _, h, _ => by cases h a (List.mem_cons_self ..)
  | a :: A, b :: B, pa, pb, hab, hba => by
    have pa' := List.pairwise_cons.mp pa
    have pb' := List.pairwise_cons.mp pb
    have e : a = b := by
      rcases List.mem_cons.mp (hab a (List.mem_cons_self ..)) with h | h
      · exact h
      · rcases List.mem_cons.mp (hba b (List.mem_cons_self ..)) with h2 | h2
        · exact h2.symm
        · have := pb'.1 a h
          have := pa'.1 b h2
          omega
    subst e
    congr 1
    refine eq_of_up pa'.2 pb'.2 (fun x hx => ?_) (fun x hx => ?_)
    · rcases List.mem_cons.mp (hab x (List.mem_cons_of_mem _ hx)) with h | h
      · have := pa'.1 x hx
        rw [h] at this
        omega
      · exact h
    · rcases List.mem_cons.mp (hba x (List.mem_cons_of_mem _ hx)) with h | h
      · have := pb'.1 x hx
        rw [h] at this
        omega
      · exact h
/-- the reduced rows of what rows make together are the only ones -/
theorem Red.uniq {A B : List (Lr F)} (RA : Red A) (RB : Red B) (ab : ∀ r ∈ rowsOf A, Sp (rowsOf B) r) (ba : ∀ r ∈ rowsOf B, Sp (rowsOf A) r) : A = B :=
  eq_of_up RA.up RB.up (fun _ h => RA.mem RB ab ba h) (fun _ h => RB.mem RA ba ab h)
end
end Lin
/-! The program's elimination over lists of a field, and what it tells. -/
namespace Lin
open Lean.Grind
section
variable {F : Type} [Field F] [DecidableEq F]
def vec (l : List F) : Vec F := fun j => l.getD j 0
theorem vec_lt {l : List F} {j : Nat} (h : j < l.length) : l[j]? = some (vec l j) := by
  unfold vec
  rw [List.getD_eq_getElem?_getD, List.getElem?_eq_getElem h]
  rfl
theorem vec_ge {l : List F} {j : Nat} (h : l.length ≤ j) : vec l j = 0 := by
  unfold vec
  rw [List.getD_eq_getElem?_getD, List.getElem?_eq_none h]
  rfl
theorem vec_inj {l m : List F} (h : l.length = m.length) (e : ∀ j, vec l j = vec m j) : l = m := by
  apply List.ext_getElem? 
  intro i
  by_cases hi : i < l.length
  · rw [vec_lt hi, vec_lt (by omega), e]
  · rw [List.getElem?_eq_none (by omega), List.getElem?_eq_none (by omega)]
/-- swept: the row less such a multiple of by that it is nought at the place -/
def swp (row by' : List F) (p : Nat) : List F := if vec row p = 0 then row else List.zipWith (fun n o => n + (-(vec row p)) * o) row by'
def scl (row : List F) (p : Nat) : List F := row.map fun n => (vec row p)⁻¹ * n
theorem swp_len {row by' : List F} {p : Nat} (h : row.length = by'.length) : (swp row by' p).length = row.length := by
  unfold swp
  split
  · rfl
  · rw [List.length_zipWith]
    omega
theorem scl_len {row : List F} {p : Nat} : (scl row p).length = row.length := List.length_map ..
theorem swp_vec {row by' : List F} {p : Nat} (h : row.length = by'.length) (j : Nat) : vec (swp row by' p) j = vec row j + (-(vec row p)) * vec by' j := by
  unfold swp
  split
  · rename_i e
    rw [e]
    grind
  · by_cases hj : j < row.length
    · have h1 := vec_lt hj
      have h2 := vec_lt (l := by') (j := j) (by omega)
      have h3 : (List.zipWith (fun n o => n + (-(vec row p)) * o) row by')[j]? = some (vec row j + (-(vec row p)) * vec by' j) := by
        rw [List.getElem?_zipWith, h1, h2]
      unfold vec at h3 ⊢
      rw [List.getD_eq_getElem?_getD, h3]
      rfl
    · have e1 := vec_ge (l := row) (j := j) (by omega)
      have e2 := vec_ge (l := by') (j := j) (by omega)
      have e3 := vec_ge (l := List.zipWith (fun n o => n + (-(vec row p)) * o) row by') (j := j) (by rw [List.length_zipWith]; omega)
      rw [e1, e2, e3]
      grind
theorem scl_vec {row : List F} {p : Nat} (j : Nat) : vec (scl row p) j = (vec row p)⁻¹ * vec row j := by
  by_cases hj : j < row.length
  · have h1 := vec_lt hj
    have h3 : (scl row p)[j]? = some ((vec row p)⁻¹ * vec row j) := by
      unfold scl
      rw [List.getElem?_map, h1]
      rfl
    unfold vec at h3 ⊢
    rw [List.getD_eq_getElem?_getD, h3]
    rfl
  · have e1 := vec_ge (l := row) (j := j) (by omega)
    have e2 := vec_ge (l := scl row p) (j := j) (by rw [scl_len]; omega)
    rw [e1, e2]
    grind
/-- where the first row stands that is not nought at the place -/
def fst (rows : List (List F)) (p : Nat) : Option Nat := rows.findIdx? fun r => decide (vec r p ≠ 0)
theorem fst_none {rows : List (List F)} {p : Nat} (h : fst rows p = none) : ∀ r ∈ rows, vec r p = 0 := by
  intro r hr
  have := List.findIdx?_eq_none_iff.mp h r hr
  simpa using this
theorem fst_some {rows : List (List F)} {p i : Nat} (h : fst rows p = some i) : ∃ r, rows[i]? = some r ∧ vec r p ≠ 0 := by
  obtain ⟨h1, h2, _⟩ := List.findIdx?_eq_some_iff_getElem.mp h
  exact ⟨rows[i], List.getElem?_eq_getElem h1, by simpa using h2⟩
def cut (rows : List (List F)) (i : Nat) : List (List F) := rows.take i ++ rows.drop (i + 1)
theorem cut_mem {rows : List (List F)} {i : Nat} {r x : List F} (hr : rows[i]? = some r) : x ∈ rows ↔ x = r ∨ x ∈ cut rows i := by
  have h1 := (List.getElem?_eq_some_iff.mp hr).1
  have h2 : rows[i] = r := (List.getElem?_eq_some_iff.mp hr).2
  have e : rows = rows.take i ++ r :: rows.drop (i + 1) := by
    rw [← h2, ← List.drop_eq_getElem_cons h1, List.take_append_drop]
  unfold cut
  conv => lhs; rw [e]
  simp only [List.mem_append, List.mem_cons]
  constructor
  · rintro (h | h | h)
    · exact .inr (.inl h)
    · exact .inl h
    · exact .inr (.inr h)
  · rintro (h | h | h)
    · exact .inr (.inl h)
    · exact .inl h
    · exact .inr (.inr h)
theorem cut_len {rows : List (List F)} {i : Nat} {r : List F} (hr : rows[i]? = some r) : (cut rows i).length + 1 = rows.length := by
  have h1 := (List.getElem?_eq_some_iff.mp hr).1
  unfold cut
  rw [List.length_append, List.length_take, List.length_drop]
  omega
abbrev Ll (F : Type) := Nat × List F
abbrev vecs (A : List (Ll F)) : List (Lr F) := A.map fun a => (a.1, vec a.2)
abbrev sps (rows : List (List F)) : List (Vec F) := rows.map vec
/-- stepped: the places in their order -/
def steps : List Nat → List (List F) → List (Ll F)
  | [], _ => []
  | p :: ps, left => match fst left p with
    | none => steps ps left
    | some i => (p, scl (left.getD i []) p) :: steps ps ((cut left i).map fun r => swp r (scl (left.getD i []) p) p)
/-- swept by all that are ready, the last one first -/
def clean (row : List F) (done : List (Ll F)) : List F := done.foldr (fun d c => swp c d.2 d.1) row
def back : List (Ll F) → List (Ll F)
  | [] => []
  | a :: A => (a.1, clean a.2 (back A)) :: back A
/-- rows of this length, nought ahead of the place -/
structure Left (w p : Nat) (rows : List (List F)) : Prop where
  len : ∀ r ∈ rows, r.length = w
  nil : ∀ r ∈ rows, ∀ j, j < p → vec r j = 0
theorem getD_of {rows : List (List F)} {i : Nat} {r : List F} (h : rows[i]? = some r) : rows.getD i [] = r := by
  rw [List.getD_eq_getElem?_getD, h]
  rfl
theorem left_step {w p i : Nat} {left : List (List F)} {r : List F} (L : Left w p left) (hr : left[i]? = some r) (h : vec r p ≠ 0) :
    Left w (p + 1) ((cut left i).map fun x => swp x (scl r p) p) := by
  have hrm := List.mem_of_getElem? hr
  have hlr := L.len r hrm
  refine ⟨fun x hx => ?_, fun x hx j hj => ?_⟩ <;> obtain ⟨y, hy, rfl⟩ := List.mem_map.mp hx <;> have hym := (cut_mem hr).mpr (.inr hy) <;> have hly := L.len y hym
  · rw [swp_len (by rw [scl_len]; omega)]
    exact hly
  · rw [swp_vec (by rw [scl_len]; omega), scl_vec]
    rcases Nat.lt_or_ge j p with h1 | h1
    · have e1 := L.nil y hym j h1
      have e2 := L.nil r hrm j h1
      grind
    · have e : j = p := by omega
      subst e
      grind
theorem left_none {w p : Nat} {left : List (List F)} (L : Left w p left) (h : fst left p = none) : Left w (p + 1) left :=
  ⟨L.len, fun r hr j hj => by
    rcases Nat.lt_or_ge j p with h1 | h1
    · exact L.nil r hr j h1
    · have e : j = p := by omega
      subst e
      exact fst_none h r hr⟩
theorem steps_ok {w : Nat} : ∀ (n p : Nat) (left : List (List F)), p + n = w → Left w p left →
    Ech (vecs (steps (List.range' p n) left)) ∧ (∀ a ∈ steps (List.range' p n) left, p ≤ a.1 ∧ a.1 < w ∧ a.2.length = w) ∧
      (∀ r ∈ left, Sp (rowsOf (vecs (steps (List.range' p n) left))) (vec r)) ∧ (∀ a ∈ steps (List.range' p n) left, Sp (sps left) (vec a.2)) ∧ (steps (List.range' p n) left).length ≤ left.length
  | 0, p, left, hw, L => by
    refine ⟨⟨.nil, (fun a h => by cases h), (fun a h => by cases h)⟩, (fun a h => by cases h), fun r hr => ?_, (fun a h => by cases h), Nat.zero_le _⟩
    have e : vec r = fun _ => 0 := funext fun j => by
      rcases Nat.lt_or_ge j p with h | h
      · exact L.nil r hr j h
      · exact vec_ge (by rw [L.len r hr]; omega)
    rw [e]
    exact .zero
  | n + 1, p, left, hw, L => by
    show Ech (vecs (steps (p :: List.range' (p + 1) n) left)) ∧ (∀ a ∈ steps (p :: List.range' (p + 1) n) left, p ≤ a.1 ∧ a.1 < w ∧ a.2.length = w) ∧
      (∀ r ∈ left, Sp (rowsOf (vecs (steps (p :: List.range' (p + 1) n) left))) (vec r)) ∧ (∀ a ∈ steps (p :: List.range' (p + 1) n) left, Sp (sps left) (vec a.2)) ∧ (steps (p :: List.range' (p + 1) n) left).length ≤ left.length
    unfold steps
    cases h : fst left p with
    | none =>
      obtain ⟨h1, h2, h3, h4, h5⟩ := steps_ok n (p + 1) left (by omega) (left_none L h)
      exact ⟨h1, fun a ha => ⟨by have := (h2 a ha).1; omega, (h2 a ha).2⟩, h3, h4, h5⟩
    | some i =>
      obtain ⟨r, hr, hne⟩ := fst_some h
      have hrm := List.mem_of_getElem? hr
      have hlr := L.len r hrm
      show Ech (vecs ((p, scl (left.getD i []) p) :: steps (List.range' (p + 1) n) ((cut left i).map fun x => swp x (scl (left.getD i []) p) p))) ∧ (∀ a ∈ (p, scl (left.getD i []) p) :: steps (List.range' (p + 1) n) ((cut left i).map fun x => swp x (scl (left.getD i []) p) p), p ≤ a.1 ∧ a.1 < w ∧ a.2.length = w) ∧
        (∀ x ∈ left, Sp (rowsOf (vecs ((p, scl (left.getD i []) p) :: steps (List.range' (p + 1) n) ((cut left i).map fun x => swp x (scl (left.getD i []) p) p)))) (vec x)) ∧ (∀ a ∈ (p, scl (left.getD i []) p) :: steps (List.range' (p + 1) n) ((cut left i).map fun x => swp x (scl (left.getD i []) p) p), Sp (sps left) (vec a.2)) ∧
        ((p, scl (left.getD i []) p) :: steps (List.range' (p + 1) n) ((cut left i).map fun x => swp x (scl (left.getD i []) p) p)).length ≤ left.length
      rw [getD_of hr]
      obtain ⟨h1, h2, h3, h4, h5⟩ := steps_ok n (p + 1) _ (by omega) (left_step L hr hne)
      generalize hS : steps (List.range' (p + 1) n) ((cut left i).map fun x => swp x (scl r p) p) = S at *
      have hone : vec (scl r p) p = 1 := by
        rw [scl_vec]
        grind
      refine ⟨⟨List.pairwise_cons.mpr ⟨fun b hb => ?_, h1.up⟩, fun a ha => ?_, fun a ha j hj => ?_⟩, fun a ha => ?_, fun x hx => ?_, fun a ha => ?_, ?_⟩
      · obtain ⟨c, hc, rfl⟩ := List.mem_map.mp hb
        have := (h2 c hc).1
        show p < c.1
        omega
      · rcases List.mem_cons.mp ha with rfl | ha
        · exact hone
        · exact h1.one a ha
      · rcases List.mem_cons.mp ha with rfl | ha
        · have e := L.nil r hrm j hj
          show vec (scl r p) j = 0
          rw [scl_vec, e]
          grind
        · exact h1.ahead a ha j hj
      · rcases List.mem_cons.mp ha with rfl | ha
        · exact ⟨Nat.le_refl _, (by show p < w; omega), by show (scl r p).length = w; rw [scl_len]; exact hlr⟩
        · have := h2 a ha
          exact ⟨by omega, this.2⟩
      · have g0 : Sp (rowsOf (vecs ((p, scl r p) :: S))) (vec (scl r p)) := .gen (List.mem_cons_self ..)
        rcases (cut_mem hr).mp hx with rfl | hx
        · exact (g0.mul (vec x p)).cast fun j => by
            rw [scl_vec]
            grind
        · have h := h3 _ (List.mem_map_of_mem hx)
          have h := h.mono (ss := rowsOf (vecs ((p, scl r p) :: S))) fun y hy => List.mem_cons_of_mem _ hy
          exact (h.lin (vec x p) g0).cast fun j => by
            rw [swp_vec (by rw [scl_len, hlr, L.len x ((cut_mem hr).mpr (.inr hx))])]
            grind
      · have gr : Sp (sps left) (vec r) := .gen (List.mem_map_of_mem hrm)
        have gs : Sp (sps left) (vec (scl r p)) := (gr.mul (vec r p)⁻¹).cast fun j => (scl_vec j).symm
        rcases List.mem_cons.mp ha with rfl | ha
        · exact gs
        · refine (h4 a ha).trans fun y hy => ?_
          obtain ⟨z, hz, rfl⟩ := List.mem_map.mp hy
          obtain ⟨x, hx, rfl⟩ := List.mem_map.mp hz
          have hxm := (cut_mem hr).mpr (.inr hx)
          exact ((Sp.gen (List.mem_map_of_mem hxm)).lin (-(vec x p)) gs).cast fun j => (swp_vec (by rw [scl_len, hlr, L.len x hxm]) j).symm
      · have := cut_len hr
        rw [List.length_map] at h5
        show S.length + 1 ≤ left.length
        omega
end
end Lin
namespace Lin
open Lean.Grind
section
variable {F : Type} [Field F] [DecidableEq F]
theorem Red.tail {a : Lr F} {A : List (Lr F)} (R : Red (a :: A)) : Red A :=
  ⟨⟨(List.pairwise_cons.mp R.up).2, fun b hb => R.one b (List.mem_cons_of_mem _ hb), fun b hb => R.ahead b (List.mem_cons_of_mem _ hb)⟩, fun b hb c hc => R.alone b (List.mem_cons_of_mem _ hb) c (List.mem_cons_of_mem _ hc)⟩
theorem Ech.tail {a : Lr F} {A : List (Lr F)} (R : Ech (a :: A)) : Ech A :=
  ⟨(List.pairwise_cons.mp R.up).2, fun b hb => R.one b (List.mem_cons_of_mem _ hb), fun b hb => R.ahead b (List.mem_cons_of_mem _ hb)⟩
/-- reduced rows in any order -/
structure RedU (A : List (Lr F)) : Prop where
  dist : A.Pairwise fun a b => a.1 ≠ b.1
  one : ∀ a ∈ A, a.2 a.1 = 1
  ahead : ∀ a ∈ A, ∀ j, j < a.1 → a.2 j = 0
  alone : ∀ a ∈ A, ∀ b ∈ A, a.1 ≠ b.1 → a.2 b.1 = 0
theorem Red.toU {A : List (Lr F)} (R : Red A) : RedU A := ⟨R.up.imp fun h => Nat.ne_of_lt h, R.one, R.ahead, R.alone⟩
theorem RedU.toR {A : List (Lr F)} (R : RedU A) (h : A.Pairwise fun a b => a.1 < b.1) : Red A := ⟨⟨h, R.one, R.ahead⟩, R.alone⟩
theorem RedU.tail {a : Lr F} {A : List (Lr F)} (R : RedU (a :: A)) : RedU A :=
  ⟨(List.pairwise_cons.mp R.dist).2, fun b hb => R.one b (List.mem_cons_of_mem _ hb), fun b hb => R.ahead b (List.mem_cons_of_mem _ hb), fun b hb c hc => R.alone b (List.mem_cons_of_mem _ hb) c (List.mem_cons_of_mem _ hc)⟩
theorem RedU.perm {A B : List (Lr F)} (R : RedU A) (h : A.Perm B) : RedU B :=
  ⟨h.pairwise R.dist fun h e => h e.symm, fun b hb => R.one b (h.mem_iff.mpr hb), fun b hb => R.ahead b (h.mem_iff.mpr hb), fun b hb c hc => R.alone b (h.mem_iff.mpr hb) c (h.mem_iff.mpr hc)⟩
theorem clean_ok {w : Nat} {row : List F} (hrow : row.length = w) : ∀ {D : List (Ll F)}, RedU (vecs D) → (∀ d ∈ D, d.2.length = w) →
    (clean row D).length = w ∧ (∀ j, (∀ d ∈ D, vec d.2 j = 0) → vec (clean row D) j = vec row j) ∧ (∀ d ∈ D, vec (clean row D) d.1 = 0) ∧
      (∀ rs : List (Vec F), Sp rs (vec row) → (∀ d ∈ D, Sp rs (vec d.2)) → Sp rs (vec (clean row D))) ∧ (∀ rs : List (Vec F), Sp rs (vec (clean row D)) → (∀ d ∈ D, Sp rs (vec d.2)) → Sp rs (vec row))
  | [], _, _ => ⟨hrow, fun _ _ => rfl, (fun d h => by cases h), fun _ h _ => h, fun _ h _ => h⟩
  | d :: D, R, hl => by
    have hd := hl d (List.mem_cons_self ..)
    obtain ⟨h1, h2, h3, h4, h5⟩ := clean_ok hrow (D := D) R.tail fun e he => hl e (List.mem_cons_of_mem _ he)
    have e : clean row (d :: D) = swp (clean row D) d.2 d.1 := rfl
    have ev : ∀ j, vec (clean row (d :: D)) j = vec (clean row D) j + (-(vec (clean row D) d.1)) * vec d.2 j := fun j => by rw [e, swp_vec (by omega)]
    have hone : vec d.2 d.1 = 1 := R.one (d.1, vec d.2) (List.mem_cons_self ..)
    refine ⟨by rw [e, swp_len (by omega)]; exact h1, fun j hj => ?_, fun x hx => ?_, fun rs g1 g2 => ?_, fun rs g1 g2 => ?_⟩
    · have e1 := hj d (List.mem_cons_self ..)
      have e2 := h2 j fun x hx => hj x (List.mem_cons_of_mem _ hx)
      rw [ev, e1, e2]
      grind
    · rcases List.mem_cons.mp hx with rfl | hx
      · rw [ev, hone]
        grind
      · have ne : d.1 ≠ x.1 := by
          exact (List.pairwise_cons.mp R.dist).1 (x.1, vec x.2) (List.mem_map_of_mem hx)
        have e1 : vec d.2 x.1 = 0 := R.alone (d.1, vec d.2) (List.mem_cons_self ..) (x.1, vec x.2) (List.mem_cons_of_mem _ (List.mem_map_of_mem hx)) ne
        have e2 := h3 x hx
        rw [ev, e1, e2]
        grind
    · exact ((h4 rs g1 fun x hx => g2 x (List.mem_cons_of_mem _ hx)).lin (-(vec (clean row D) d.1)) (g2 d (List.mem_cons_self ..))).cast fun j => (ev j).symm
    · refine h5 rs ?_ fun x hx => g2 x (List.mem_cons_of_mem _ hx)
      exact (g1.lin (vec (clean row D) d.1) (g2 d (List.mem_cons_self ..))).cast fun j => by
        rw [ev]
        grind
theorem back_ok {w : Nat} : ∀ {A : List (Ll F)}, Ech (vecs A) → (∀ a ∈ A, a.2.length = w) →
    Red (vecs (back A)) ∧ (back A).map (·.1) = A.map (·.1) ∧ (∀ a ∈ back A, a.2.length = w) ∧ (∀ a ∈ back A, Sp (rowsOf (vecs A)) (vec a.2)) ∧ (∀ a ∈ A, Sp (rowsOf (vecs (back A))) (vec a.2))
  | [], _, _ => ⟨⟨⟨.nil, (fun a h => by cases h), (fun a h => by cases h)⟩, (fun a h => by cases h)⟩, rfl, (fun a h => by cases h), (fun a h => by cases h), (fun a h => by cases h)⟩
  | a :: A, E, hl => by
    have ha := hl a (List.mem_cons_self ..)
    obtain ⟨R, hm, hw, g1, g2⟩ := back_ok (A := A) E.tail fun x hx => hl x (List.mem_cons_of_mem _ hx)
    obtain ⟨c1, c2, c3, c4, c5⟩ := clean_ok ha R.toU hw
    have up : ∀ d ∈ back A, a.1 < d.1 := fun d hd => by
      have : d.1 ∈ A.map (·.1) := by
        rw [← hm]
        exact List.mem_map_of_mem hd
      obtain ⟨b, hb, e⟩ := List.mem_map.mp this
      have := (List.pairwise_cons.mp E.up).1 (b.1, vec b.2) (List.mem_map_of_mem hb)
      have : a.1 < b.1 := this
      omega
    have az : ∀ j, j ≤ a.1 → ∀ d ∈ back A, vec d.2 j = 0 := fun j hj d hd => R.ahead (d.1, vec d.2) (List.mem_map_of_mem hd) j (by have := up d hd; show j < d.1; omega)
    show Red (vecs ((a.1, clean a.2 (back A)) :: back A)) ∧ ((a.1, clean a.2 (back A)) :: back A).map (·.1) = (a :: A).map (·.1) ∧ (∀ x ∈ (a.1, clean a.2 (back A)) :: back A, x.2.length = w) ∧
      (∀ x ∈ (a.1, clean a.2 (back A)) :: back A, Sp (rowsOf (vecs (a :: A))) (vec x.2)) ∧ (∀ x ∈ a :: A, Sp (rowsOf (vecs ((a.1, clean a.2 (back A)) :: back A))) (vec x.2))
    have m1 : ∀ x ∈ back A, Sp (rowsOf (vecs (a :: A))) (vec x.2) := fun x hx => (g1 x hx).mono fun y hy => List.mem_cons_of_mem _ hy
    have m2 : ∀ d ∈ back A, Sp (rowsOf (vecs ((a.1, clean a.2 (back A)) :: back A))) (vec d.2) := fun d hd => .gen (List.mem_cons_of_mem _ (List.mem_map_of_mem (f := fun x : Lr F => x.2) (List.mem_map_of_mem hd)))
    refine ⟨⟨⟨List.pairwise_cons.mpr ⟨fun b hb => ?_, R.up⟩, fun b hb => ?_, fun b hb j hj => ?_⟩, fun b hb c hc ne => ?_⟩, ?_, fun x hx => ?_, fun x hx => ?_, fun x hx => ?_⟩
    · obtain ⟨d, hd, rfl⟩ := List.mem_map.mp hb
      exact up d hd
    · rcases List.mem_cons.mp hb with rfl | hb
      · show vec (clean a.2 (back A)) a.1 = 1
        rw [c2 a.1 (az a.1 (Nat.le_refl _))]
        exact E.one (a.1, vec a.2) (List.mem_cons_self ..)
      · exact R.one b hb
    · rcases List.mem_cons.mp hb with rfl | hb
      · have hj : j < a.1 := hj
        show vec (clean a.2 (back A)) j = 0
        rw [c2 j (az j (by omega))]
        exact E.ahead (a.1, vec a.2) (List.mem_cons_self ..) j hj
      · exact R.ahead b hb j hj
    · rcases List.mem_cons.mp hb with rfl | hb <;> rcases List.mem_cons.mp hc with rfl | hc
      · exact absurd rfl ne
      · obtain ⟨d, hd, rfl⟩ := List.mem_map.mp hc
        exact c3 d hd
      · obtain ⟨d, hd, rfl⟩ := List.mem_map.mp hb
        exact az a.1 (Nat.le_refl _) d hd
      · exact R.alone b hb c hc ne
    · show a.1 :: (back A).map (·.1) = a.1 :: A.map (·.1)
      rw [hm]
    · rcases List.mem_cons.mp hx with rfl | hx
      · exact c1
      · exact hw x hx
    · rcases List.mem_cons.mp hx with rfl | hx
      · exact c4 _ (.gen (List.mem_cons_self ..)) m1
      · exact m1 x hx
    · rcases List.mem_cons.mp hx with rfl | hx
      · exact c5 _ (.gen (List.mem_cons_self ..)) m2
      · refine (g2 x hx).mono fun y hy => List.mem_cons_of_mem _ hy
/-- the program's reduced rows -/
def redL (w : Nat) (rows : List (List F)) : List (Ll F) := back (steps (List.range' 0 w) rows)
theorem left_start {w : Nat} {rows : List (List F)} (h : ∀ r ∈ rows, r.length = w) : Left w 0 rows := ⟨h, fun _ _ _ hj => absurd hj (Nat.not_lt_zero _)⟩
structure RedOf (w : Nat) (rows : List (List F)) (A : List (Ll F)) : Prop where
  red : Red (vecs A)
  len : ∀ a ∈ A, a.2.length = w
  into : ∀ r ∈ rows, Sp (rowsOf (vecs A)) (vec r)
  of : ∀ a ∈ A, Sp (sps rows) (vec a.2)
theorem redL_ok {w : Nat} {rows : List (List F)} (h : ∀ r ∈ rows, r.length = w) : RedOf w rows (redL w rows) ∧ (redL w rows).map (·.1) = (steps (List.range' 0 w) rows).map (·.1) := by
  obtain ⟨h1, h2, h3, h4, h5⟩ := steps_ok w 0 rows (Nat.zero_add w) (left_start h)
  obtain ⟨R, hm, hw, g1, g2⟩ := back_ok h1 fun a ha => (h2 a ha).2.2
  refine ⟨⟨R, hw, fun r hr => (h3 r hr).trans fun y hy => ?_, fun a ha => (g1 a ha).trans fun y hy => ?_⟩, hm⟩
  · obtain ⟨z, hz, rfl⟩ := List.mem_map.mp hy
    obtain ⟨x, hx, rfl⟩ := List.mem_map.mp hz
    exact g2 x hx
  · obtain ⟨z, hz, rfl⟩ := List.mem_map.mp hy
    obtain ⟨x, hx, rfl⟩ := List.mem_map.mp hz
    exact h4 x hx
theorem map_inj_len {w : Nat} : ∀ {A B : List (Ll F)}, (∀ a ∈ A, a.2.length = w) → (∀ b ∈ B, b.2.length = w) → vecs A = vecs B → A = B
  | [], [], _, _, _ => rfl
  | [], b :: B, _, _, e => by cases e
  | a :: A, [], _, _, e => by cases e
  | a :: A, b :: B, ha, hb, e => by
    have e1 : (a.1, vec a.2) = (b.1, vec b.2) := (List.cons.inj e).1
    have e2 := (List.cons.inj e).2
    have l1 := ha a (List.mem_cons_self ..)
    have l2 := hb b (List.mem_cons_self ..)
    have e3 : a = b := Prod.ext (Prod.mk.inj e1).1 (vec_inj (by omega) fun j => congrFun (Prod.mk.inj e1).2 j)
    rw [e3, map_inj_len (fun x hx => ha x (List.mem_cons_of_mem _ hx)) (fun x hx => hb x (List.mem_cons_of_mem _ hx)) e2]
/-- reduced rows of rows that make the same together are the same -/
theorem RedOf.uniq {w : Nat} {rows : List (List F)} {A B : List (Ll F)} (a : RedOf w rows A) (b : RedOf w rows B) : A = B := by
  have key : ∀ {A B : List (Ll F)}, RedOf w rows A → RedOf w rows B → ∀ r ∈ rowsOf (vecs A), Sp (rowsOf (vecs B)) r := fun a b r hr => by
    obtain ⟨z, hz, rfl⟩ := List.mem_map.mp hr
    obtain ⟨x, hx, rfl⟩ := List.mem_map.mp hz
    refine (a.of x hx).trans fun y hy => ?_
    obtain ⟨u, hu, rfl⟩ := List.mem_map.mp hy
    exact b.into u hu
  exact map_inj_len a.len b.len (Red.uniq a.red b.red (key a b) (key b a))
/-! ### the law's own reducing -/
def lawStep (w : Nat) (kept : List (Ll F)) (r : List F) : List (Ll F) :=
  let c := kept.foldl (fun c d => swp c d.2 d.1) r
  match (List.range w).find? fun j => decide (vec c j ≠ 0) with
  | none => kept
  | some p => kept.map (fun d => (d.1, swp d.2 (scl c p) p)) ++ [(p, scl c p)]
structure RedW (w : Nat) (rows : List (List F)) (A : List (Ll F)) : Prop where
  red : RedU (vecs A)
  len : ∀ a ∈ A, a.2.length = w
  lead : ∀ a ∈ A, a.1 < w
  into : ∀ r ∈ rows, Sp (rowsOf (vecs A)) (vec r)
  of : ∀ a ∈ A, Sp (sps rows) (vec a.2)
theorem find_range {w : Nat} {c : List F} {p : Nat} (h : (List.range w).find? (fun j => decide (vec c j ≠ 0)) = some p) : p < w ∧ vec c p ≠ 0 ∧ ∀ j, j < p → vec c j = 0 := by
  obtain ⟨h1, h2, h3⟩ := List.find?_range_eq_some.mp h
  refine ⟨List.mem_range.mp h2, of_decide_eq_true h1, fun j hj => ?_⟩
  have := h3 j hj
  simpa using this
theorem foldl_clean {kept : List (Ll F)} {r : List F} : kept.foldl (fun c d => swp c d.2 d.1) r = clean r kept.reverse := by
  unfold clean
  rw [List.foldr_reverse]
theorem law_step {w : Nat} {rows : List (List F)} {kept : List (Ll F)} {r : List F} (hr : r.length = w) (K : RedW w rows kept) : RedW w (rows ++ [r]) (lawStep w kept r) := by
  have RU : RedU (vecs kept.reverse) := by
    refine K.red.perm ?_
    show (kept.map _).Perm (kept.reverse.map _)
    exact (List.reverse_perm kept).symm.map _
  obtain ⟨c1, c2, c3, c4, c5⟩ := clean_ok hr RU fun a ha => K.len a (List.mem_reverse.mp ha)
  have e : lawStep w kept r = match (List.range w).find? fun j => decide (vec (clean r kept.reverse) j ≠ 0) with
      | none => kept
      | some p => kept.map (fun d => (d.1, swp d.2 (scl (clean r kept.reverse) p) p)) ++ [(p, scl (clean r kept.reverse) p)] := by
    unfold lawStep
    rw [foldl_clean]
  rw [e]
  generalize clean r kept.reverse = c at *
  have gk : ∀ {ss : List (Vec F)}, (∀ d ∈ kept, Sp ss (vec d.2)) → ∀ d ∈ kept.reverse, Sp ss (vec d.2) := fun h d hd => h d (List.mem_reverse.mp hd)
  have gr : Sp (sps (rows ++ [r])) (vec r) := .gen (List.mem_map_of_mem (List.mem_append_right _ (List.mem_cons_self ..)))
  have go : ∀ d ∈ kept, Sp (sps (rows ++ [r])) (vec d.2) := fun d hd => (K.of d hd).mono fun y hy => by
    obtain ⟨x, hx, rfl⟩ := List.mem_map.mp hy
    exact List.mem_map_of_mem (List.mem_append_left _ hx)
  have gc : Sp (sps (rows ++ [r])) (vec c) := c4 _ gr (gk go)
  cases h : (List.range w).find? fun j => decide (vec c j ≠ 0) with
  | none =>
    refine ⟨K.red, K.len, K.lead, fun x hx => ?_, go⟩
    rcases List.mem_append.mp hx with hx | hx
    · exact K.into x hx
    · rw [List.mem_singleton.mp hx]
      have z : vec c = fun _ => 0 := funext fun j => by
        rcases Nat.lt_or_ge j w with hj | hj
        · have := List.find?_eq_none.mp h j (List.mem_range.mpr hj)
          simpa using this
        · exact vec_ge (by omega)
      exact c5 _ (by rw [z]; exact .zero) (gk fun d hd => .gen (List.mem_map_of_mem (f := fun x : Lr F => x.2) (List.mem_map_of_mem hd)))
  | some p =>
    obtain ⟨hp, hne, hz⟩ := find_range h
    show RedW w (rows ++ [r]) (kept.map (fun d => (d.1, swp d.2 (scl c p) p)) ++ [(p, scl c p)])
    have hsl : (scl c p).length = w := by rw [scl_len]; exact c1
    have hone : vec (scl c p) p = 1 := by
      rw [scl_vec]
      grind
    have hk : ∀ d ∈ kept, vec (scl c p) d.1 = 0 := fun d hd => by
      have := c3 d (List.mem_reverse.mpr hd)
      rw [scl_vec, this]
      grind
    have hah : ∀ j, j < p → vec (scl c p) j = 0 := fun j hj => by
      rw [scl_vec, hz j hj]
      grind
    have hpn : ∀ d ∈ kept, d.1 ≠ p := fun d hd e => hne (by rw [← e]; exact c3 d (List.mem_reverse.mpr hd))
    have hs : ∀ d ∈ kept, ∀ j, vec (swp d.2 (scl c p) p) j = vec d.2 j + (-(vec d.2 p)) * vec (scl c p) j := fun d hd j => swp_vec (by rw [hsl]; exact K.len d hd) j
    have gs : ∀ {ss : List (Vec F)}, Sp ss (vec c) → Sp ss (vec (scl c p)) := fun h => (h.mul (vec c p)⁻¹).cast fun j => (scl_vec j).symm
    have mem : ∀ {x : Lr F}, x ∈ vecs (kept.map (fun d => (d.1, swp d.2 (scl c p) p)) ++ [(p, scl c p)]) → (∃ d ∈ kept, x = (d.1, vec (swp d.2 (scl c p) p))) ∨ x = (p, vec (scl c p)) := fun {x} hx => by
      obtain ⟨y, hy, rfl⟩ := List.mem_map.mp hx
      rcases List.mem_append.mp hy with hy | hy
      · obtain ⟨d, hd, rfl⟩ := List.mem_map.mp hy
        exact .inl ⟨d, hd, rfl⟩
      · rw [List.mem_singleton.mp hy]
        exact .inr rfl
    refine ⟨⟨?_, fun x hx => ?_, fun x hx j hj => ?_, fun x hx y hy ne => ?_⟩, fun x hx => ?_, fun x hx => ?_, fun x hx => ?_, fun x hx => ?_⟩
    · show ((kept.map (fun d => (d.1, swp d.2 (scl c p) p)) ++ [(p, scl c p)]).map fun a => (a.1, vec a.2)).Pairwise _
      rw [List.map_append, List.map_map]
      refine List.pairwise_append.mpr ⟨?_, List.pairwise_singleton .., fun a ha b hb => ?_⟩
      · have h := K.red.dist
        rw [List.pairwise_map] at h ⊢
        exact h
      · obtain ⟨d, hd, rfl⟩ := List.mem_map.mp ha
        rw [List.mem_singleton.mp hb]
        exact hpn d hd
    · rcases mem hx with ⟨d, hd, rfl⟩ | rfl
      · show vec (swp d.2 (scl c p) p) d.1 = 1
        have e1 : vec d.2 d.1 = 1 := K.red.one (d.1, vec d.2) (List.mem_map_of_mem hd)
        rw [hs d hd, e1, hk d hd]
        grind
      · exact hone
    · rcases mem hx with ⟨d, hd, rfl⟩ | rfl
      · have hj : j < d.1 := hj
        show vec (swp d.2 (scl c p) p) j = 0
        have za := K.red.ahead (d.1, vec d.2) (List.mem_map_of_mem hd)
        have e1 : vec d.2 j = 0 := za j hj
        rw [hs d hd, e1]
        rcases Nat.lt_or_ge p d.1 with h1 | h1
        · have e2 : vec d.2 p = 0 := za p h1
          rw [e2]
          grind
        · rw [hah j (by omega)]
          grind
      · exact hah j hj
    · rcases mem hx with ⟨d, hd, rfl⟩ | rfl <;> rcases mem hy with ⟨d2, hd2, rfl⟩ | rfl
      · show vec (swp d.2 (scl c p) p) d2.1 = 0
        have e1 : vec d.2 d2.1 = 0 := K.red.alone (d.1, vec d.2) (List.mem_map_of_mem hd) (d2.1, vec d2.2) (List.mem_map_of_mem hd2) ne
        rw [hs d hd, e1, hk d2 hd2]
        grind
      · show vec (swp d.2 (scl c p) p) p = 0
        rw [hs d hd, hone]
        grind
      · exact hk d2 hd2
      · exact absurd rfl ne
    · rcases List.mem_append.mp hx with hx | hx
      · obtain ⟨d, hd, rfl⟩ := List.mem_map.mp hx
        show (swp d.2 (scl c p) p).length = w
        rw [swp_len (by rw [hsl]; exact K.len d hd)]
        exact K.len d hd
      · rw [List.mem_singleton.mp hx]
        exact hsl
    · rcases List.mem_append.mp hx with hx | hx
      · obtain ⟨d, hd, rfl⟩ := List.mem_map.mp hx
        exact K.lead d hd
      · rw [List.mem_singleton.mp hx]
        exact hp
    · have w1 : Sp (rowsOf (vecs (kept.map (fun d => (d.1, swp d.2 (scl c p) p)) ++ [(p, scl c p)]))) (vec (scl c p)) :=
        .gen (List.mem_map_of_mem (f := fun x : Lr F => x.2) (List.mem_map_of_mem (f := fun a : Ll F => (a.1, vec a.2)) (List.mem_append_right _ (List.mem_cons_self ..))))
      have w2 : ∀ d ∈ kept, Sp (rowsOf (vecs (kept.map (fun d => (d.1, swp d.2 (scl c p) p)) ++ [(p, scl c p)]))) (vec d.2) := fun d hd => by
        have h : Sp (rowsOf (vecs (kept.map (fun d => (d.1, swp d.2 (scl c p) p)) ++ [(p, scl c p)]))) (vec (swp d.2 (scl c p) p)) :=
          .gen (List.mem_map_of_mem (f := fun x : Lr F => x.2) (List.mem_map_of_mem (f := fun a : Ll F => (a.1, vec a.2)) (List.mem_append_left _ (List.mem_map_of_mem (f := fun d : Ll F => (d.1, swp d.2 (scl c p) p)) hd))))
        exact (h.lin (vec d.2 p) w1).cast fun j => by
          rw [hs d hd]
          grind
      rcases List.mem_append.mp hx with hx | hx
      · refine (K.into x hx).trans fun y hy => ?_
        obtain ⟨z, hz, rfl⟩ := List.mem_map.mp hy
        obtain ⟨d, hd, rfl⟩ := List.mem_map.mp hz
        exact w2 d hd
      · rw [List.mem_singleton.mp hx]
        refine c5 _ ?_ (gk w2)
        exact (w1.mul (vec c p)).cast fun j => by
          rw [scl_vec]
          grind
    · rcases List.mem_append.mp hx with hx | hx
      · obtain ⟨d, hd, rfl⟩ := List.mem_map.mp hx
        exact ((go d hd).lin (-(vec d.2 p)) (gs gc)).cast fun j => (hs d hd j).symm
      · rw [List.mem_singleton.mp hx]
        exact gs gc
def lawRed (w : Nat) (rows : List (List F)) : List (Ll F) := rows.foldl (lawStep w) []
theorem lawRed_ok {w : Nat} : ∀ (rows done : List (List F)) (kept : List (Ll F)), (∀ r ∈ rows, r.length = w) → RedW w done kept → RedW w (done ++ rows) (rows.foldl (lawStep w) kept)
  | [], done, kept, _, K => by
    rw [List.append_nil]
    exact K
  | r :: rows, done, kept, h, K => by
    have := lawRed_ok rows (done ++ [r]) (lawStep w kept r) (fun x hx => h x (List.mem_cons_of_mem _ hx)) (law_step (h r (List.mem_cons_self ..)) K)
    rw [List.append_assoc] at this
    exact this
theorem lawRed_start {w : Nat} : RedW w ([] : List (List F)) [] := ⟨⟨.nil, (fun a h => by cases h), (fun a h => by cases h), (fun a h => by cases h)⟩, (fun a h => by cases h), (fun a h => by cases h), (fun a h => by cases h), (fun a h => by cases h)⟩
/-- sorted by leads, the law's are the program's -/
theorem law_same {w : Nat} {rows : List (List F)} {B : List (Ll F)} (h : ∀ r ∈ rows, r.length = w) (p : (lawRed w rows).Perm B) (up : B.Pairwise fun a b => a.1 < b.1) : redL w rows = B := by
  have K := lawRed_ok rows [] [] h lawRed_start
  rw [List.nil_append] at K
  have pv : (vecs (lawRed w rows)).Perm (vecs B) := p.map _
  refine RedOf.uniq (redL_ok h).1 ⟨(K.red.perm pv).toR ?_, fun a ha => K.len a (p.mem_iff.mpr ha), fun r hr => (K.into r hr).mono fun y hy => ?_, fun a ha => K.of a (p.mem_iff.mpr ha)⟩
  · rw [List.pairwise_map]
    exact up
  · exact (pv.map (fun x : Lr F => x.2)).mem_iff.mp hy
end
end Lin
/-! How great the numbers of swept rows can grow: by one bottom for the whole row. -/
namespace Lin
open Lean.Grind St
section
variable {f : Int} (D : Fd f)
/-- all of the row over one bottom -/
def Ht (n : Nat) (v : Vec D.F) : Prop := letI := D.fld; ∃ (d : Int) (z : Nat → Int), D.ofI d ≠ 0 ∧ d.natAbs < 2 ^ n ∧ ∀ j, (z j).natAbs < 2 ^ n ∧ v j = D.ofI (z j) * (D.ofI d)⁻¹
variable {D}
theorem Ht.mono {n m : Nat} {v : Vec D.F} (h : Ht D n v) (k : n ≤ m) : Ht D m v := by
  obtain ⟨d, z, h0, h1, h2⟩ := h
  have e : 2 ^ n ≤ 2 ^ m := Nat.pow_le_pow_right (by decide) k
  exact ⟨d, z, h0, Nat.lt_of_lt_of_le h1 e, fun j => ⟨Nat.lt_of_lt_of_le (h2 j).1 e, (h2 j).2⟩⟩
theorem ofI_zero : letI := D.fld; D.ofI 0 = 0 := (D.ofI0 0).mpr (by split <;> simp)
theorem ofI_neg (t : Int) : letI := D.fld; D.ofI (-t) = -(D.ofI t) := by
  letI := D.fld
  have h := D.ofI_add t (-t)
  rw [Int.add_right_neg, ofI_zero] at h
  grind
theorem two_pow {a b n m : Nat} (h1 : a < 2 ^ n) (h2 : b < 2 ^ m) : a * b < 2 ^ (n + m) := by
  rw [Nat.pow_add]
  exact Nat.mul_lt_mul'' h1 h2
theorem Ht.swp {n m : Nat} {u v : Vec D.F} {p : Nat} (hu : Ht D n u) (hv : Ht D m v) : letI := D.fld; Ht D (n + m + 1) (fun j => u j + (-(u p)) * v j) := by
  letI := D.fld
  obtain ⟨d, z, d0, d1, d2⟩ := hu
  obtain ⟨e, y, e0, e1, e2⟩ := hv
  refine ⟨d * e, fun j => z j * e + -(z p * y j), ?_, ?_, fun j => ⟨?_, ?_⟩⟩
  · rw [D.ofI_mul]
    grind
  · rw [Int.natAbs_mul]
    exact Nat.lt_of_lt_of_le (two_pow d1 e1) (Nat.pow_le_pow_right (by decide) (by omega))
  · have h1 := two_pow (d2 j).1 e1
    have h2 := two_pow (d2 p).1 (e2 j).1
    have h3 := Int.natAbs_add_le (z j * e) (-(z p * y j))
    rw [Int.natAbs_neg, Int.natAbs_mul, Int.natAbs_mul] at h3
    show (z j * e + -(z p * y j)).natAbs < _
    rw [Nat.pow_succ]
    omega
  · show u j + (-(u p)) * v j = D.ofI (z j * e + -(z p * y j)) * (D.ofI (d * e))⁻¹
    rw [D.ofI_add, ofI_neg, D.ofI_mul, D.ofI_mul, D.ofI_mul, (d2 j).2, (d2 p).2, (e2 j).2]
    generalize D.ofI d = A at *
    generalize D.ofI e = B at *
    generalize D.ofI (z j) = X
    generalize D.ofI (z p) = Y
    generalize D.ofI (y j) = Z
    grind
theorem Ht.scl {n : Nat} {u : Vec D.F} {p : Nat} (hu : Ht D n u) (h : letI := D.fld; u p ≠ 0) : letI := D.fld; Ht D n (fun j => (u p)⁻¹ * u j) := by
  letI := D.fld
  obtain ⟨d, z, d0, d1, d2⟩ := hu
  have hz : D.ofI (z p) ≠ 0 := fun e => h (by
    rw [(d2 p).2, e]
    grind)
  refine ⟨z p, z, hz, (d2 p).1, fun j => ⟨(d2 j).1, ?_⟩⟩
  show (u p)⁻¹ * u j = D.ofI (z j) * (D.ofI (z p))⁻¹
  rw [(d2 j).2, (d2 p).2]
  generalize D.ofI d = A at *
  generalize D.ofI (z j) = X
  generalize D.ofI (z p) = Y at *
  grind
theorem Ht.mul {n m : Nat} {u : Vec D.F} (hu : Ht D n u) {c : D.F} {t b : Int} (hb : letI := D.fld; D.ofI b ≠ 0) (e : letI := D.fld; c = D.ofI t * (D.ofI b)⁻¹) (ht : t.natAbs < 2 ^ m) (hb2 : b.natAbs < 2 ^ m) : letI := D.fld; Ht D (n + m) (fun j => u j * c) := by
  letI := D.fld
  obtain ⟨d, z, d0, d1, d2⟩ := hu
  refine ⟨d * b, fun j => z j * t, ?_, ?_, fun j => ⟨?_, ?_⟩⟩
  · rw [D.ofI_mul]
    grind
  · rw [Int.natAbs_mul]
    exact two_pow d1 hb2
  · show (z j * t).natAbs < _
    rw [Int.natAbs_mul]
    exact two_pow (d2 j).1 ht
  · show u j * c = D.ofI (z j * t) * (D.ofI (d * b))⁻¹
    rw [D.ofI_mul, D.ofI_mul, (d2 j).2, e]
    generalize D.ofI d = A at *
    generalize D.ofI b = B at *
    generalize D.ofI (z j) = X
    generalize D.ofI t = Y
    grind
theorem Ht.add {n m : Nat} {u v : Vec D.F} (hu : Ht D n u) (hv : Ht D m v) : letI := D.fld; Ht D (n + m + 1) (fun j => u j + v j) := by
  letI := D.fld
  obtain ⟨d, z, d0, d1, d2⟩ := hu
  obtain ⟨e, y, e0, e1, e2⟩ := hv
  refine ⟨d * e, fun j => z j * e + d * y j, ?_, ?_, fun j => ⟨?_, ?_⟩⟩
  · rw [D.ofI_mul]
    grind
  · rw [Int.natAbs_mul]
    exact Nat.lt_of_lt_of_le (two_pow d1 e1) (Nat.pow_le_pow_right (by decide) (by omega))
  · have h1 := two_pow (d2 j).1 e1
    have h2 := two_pow d1 (e2 j).1
    have h3 := Int.natAbs_add_le (z j * e) (d * y j)
    rw [Int.natAbs_mul, Int.natAbs_mul] at h3
    show (z j * e + d * y j).natAbs < _
    rw [Nat.pow_succ]
    omega
  · show u j + v j = D.ofI (z j * e + d * y j) * (D.ofI (d * e))⁻¹
    rw [D.ofI_add, D.ofI_mul, D.ofI_mul, D.ofI_mul, (d2 j).2, (e2 j).2]
    generalize D.ofI d = A at *
    generalize D.ofI e = B at *
    generalize D.ofI (z j) = X
    generalize D.ofI (y j) = Z
    grind
/-- a single number of such a row -/
theorem Ht.sm {n : Nat} {u : Vec D.F} (hf : IsF f) (hu : Ht D n u) (h7 : 7 ≤ n) (j : Nat) : (D.enc (u j)).1.natAbs < 2 ^ n ∧ (D.enc (u j)).2.natAbs < 2 ^ n := by
  letI := D.fld
  obtain ⟨d, z, d0, d1, d2⟩ := hu
  by_cases h0 : f = 0
  · subst h0
    rw [(d2 j).2, D.low _ _ d0]
    have hd : d ≠ 0 := fun e => d0 (by rw [e]; exact ofI_zero)
    have h := low0_le (t := z j) hd
    exact ⟨Nat.lt_of_le_of_lt h.1 (d2 j).1, Nat.lt_of_le_of_lt h.2 d1⟩
  · rcases hf with hf | ⟨p, hp, rfl⟩
    · exact absurd hf h0
    · have hb := prime_big p hp
      have h2 : (2 : Nat) ^ 7 ≤ 2 ^ n := Nat.pow_le_pow_right (by decide) h7
      rcases D.num (u j) with ⟨e, _⟩ | ⟨_, h3, h4, h5⟩
      · exact absurd e h0
      · have h2 : 128 ≤ 2 ^ n := h2
        rw [h3]
        omega
/-- a number as a division -/
theorem num_div (hf : IsF f) (x : D.F) : letI := D.fld; D.ofI (D.enc x).2 ≠ 0 ∧ x = D.ofI (D.enc x).1 * (D.ofI (D.enc x).2)⁻¹ := by
  letI := D.fld
  rcases D.num x with ⟨h0, h1, h2⟩ | ⟨h0, h1, h2, h3⟩
  · subst h0
    have hb : D.ofI (D.enc x).2 ≠ 0 := fun e => by
      have := (D.ofI0 _).mp e
      rw [if_pos rfl] at this
      omega
    refine ⟨hb, D.inj _ _ ?_⟩
    rw [D.low _ _ hb]
    have h2 : Nat.gcd (D.enc x).1.natAbs (D.enc x).2.natAbs = 1 := h2
    have hg : gOf (D.enc x).1 (D.enc x).2 = 1 := by
      unfold gOf
      rw [if_neg (by omega), h2]
      rfl
    show _ = (if (0 : Int) ≠ 0 then _ else ((D.enc x).1.fdiv (gOf (D.enc x).1 (D.enc x).2), (D.enc x).2.fdiv (gOf (D.enc x).1 (D.enc x).2)))
    rw [if_neg (by simp), hg, Int.fdiv_one, Int.fdiv_one]
  · have e : D.ofI (D.enc x).2 = 1 := by rw [h1]; exact D.ofI_one
    have e2 : x = D.ofI (D.enc x).1 := D.inj _ _ (by
      rw [D.encI, if_neg h0, Int.emod_eq_of_lt h2 h3]
      exact Prod.ext rfl h1)
    rw [e]
    refine ⟨one_ne, ?_⟩
    rw [← e2]
    grind
def Sz (D : Fd f) (n : Nat) (x : D.F) : Prop := (D.enc x).1.natAbs < 2 ^ n ∧ (D.enc x).2.natAbs < 2 ^ n
/-- a row of single numbers -/
theorem Ht.ofs (hf : IsF f) {k : Nat} : ∀ {l : List D.F}, (∀ x ∈ l, Sz D k x) → letI := D.fld; Ht D (k * l.length + 1) (vec l)
  | [], _ => by
    letI := D.fld
    refine ⟨1, fun _ => 0, ?_, (by show 1 < 2 ^ (k * 0 + 1); rw [Nat.mul_zero]; decide), fun j => ⟨Nat.two_pow_pos _, ?_⟩⟩
    · rw [D.ofI_one]
      exact one_ne
    · rw [ofI_zero]
      show (0 : D.F) = _
      grind
  | x :: l, h => by
    letI := D.fld
    obtain ⟨d, z, d0, d1, d2⟩ := Ht.ofs hf fun y hy => h y (List.mem_cons_of_mem _ hy)
    obtain ⟨s1, s2⟩ := h x (List.mem_cons_self ..)
    obtain ⟨b0, e⟩ := num_div (D := D) hf x
    have en : k * (x :: l).length + 1 = (k * l.length + 1) + k := by
      show k * (l.length + 1) + 1 = _
      rw [Nat.mul_succ]
      omega
    rw [en]
    refine ⟨d * (D.enc x).2, fun j => match j with | 0 => d * (D.enc x).1 | j + 1 => z j * (D.enc x).2, ?_, ?_, fun j => ?_⟩
    · rw [D.ofI_mul]
      generalize D.ofI d = A at *
      generalize D.ofI (D.enc x).2 = B at *
      grind
    · rw [Int.natAbs_mul]
      exact two_pow d1 s2
    · cases j with
      | zero =>
        refine ⟨?_, ?_⟩
        · show (d * (D.enc x).1).natAbs < _
          rw [Int.natAbs_mul]
          exact two_pow d1 s1
        · show x = D.ofI (d * (D.enc x).1) * (D.ofI (d * (D.enc x).2))⁻¹
          rw [D.ofI_mul, D.ofI_mul]
          generalize D.ofI d = A at *
          generalize D.ofI (D.enc x).2 = B at *
          generalize D.ofI (D.enc x).1 = C at *
          grind
      | succ j =>
        refine ⟨?_, ?_⟩
        · show (z j * (D.enc x).2).natAbs < _
          rw [Int.natAbs_mul]
          exact two_pow (d2 j).1 s2
        · show vec l j = D.ofI (z j * (D.enc x).2) * (D.ofI (d * (D.enc x).2))⁻¹
          rw [D.ofI_mul, D.ofI_mul, (d2 j).2]
          generalize D.ofI d = A at *
          generalize D.ofI (D.enc x).2 = B at *
          generalize D.ofI (z j) = C at *
          grind
end
end Lin
/-! How great the numbers of swept rows are in truth: a row that is swept at places is told by two sums of products of the first rows. -/
namespace Lin
open Lean.Grind
section
variable {R : Type} [CommRing R]
/-- the signed sum over the places: the row's number times what g tells of the other places -/
def ex (r : Nat → R) (g : List Nat → R) : List Nat → R
  | [] => 0
  | c :: cs => r c * g cs - ex r (fun ds => g (c :: ds)) cs
def dt : List (Nat → R) → List Nat → R
  | [] => fun cs => match cs with | [] => 1 | _ :: _ => 0
  | r :: rs => ex r (dt rs)
theorem ex_row (a b : Nat → R) (k : R) : ∀ (cs : List Nat) (g : List Nat → R), ex (fun j => a j + k * b j) g cs = ex a g cs + k * ex b g cs
  | [], g => by
    show (0 : R) = 0 + k * 0
    grind
  | c :: cs, g => by
    have := ex_row a b k cs fun ds => g (c :: ds)
    show (a c + k * b c) * g cs - ex (fun j => a j + k * b j) (fun ds => g (c :: ds)) cs = (a c * g cs - ex a (fun ds => g (c :: ds)) cs) + k * (b c * g cs - ex b (fun ds => g (c :: ds)) cs)
    grind
theorem ex_fun (r : Nat → R) (k : R) : ∀ (cs : List Nat) (g h : List Nat → R), ex r (fun ds => k * g ds - h ds) cs = k * ex r g cs - ex r h cs
  | [], g, h => by
    show (0 : R) = k * 0 - 0
    grind
  | c :: cs, g, h => by
    have := ex_fun r k cs (fun ds => g (c :: ds)) (fun ds => h (c :: ds))
    show r c * (k * g cs - h cs) - ex r (fun ds => k * g (c :: ds) - h (c :: ds)) cs = k * (r c * g cs - ex r (fun ds => g (c :: ds)) cs) - (r c * h cs - ex r (fun ds => h (c :: ds)) cs)
    grind
theorem ex_zero (r : Nat → R) : ∀ (cs : List Nat) (g : List Nat → R), (∀ ds, g ds = 0) → ex r g cs = 0
  | [], g, _ => rfl
  | c :: cs, g, h => by
    have e1 := ex_zero r cs (fun ds => g (c :: ds)) fun ds => h _
    have e2 := h cs
    show r c * g cs - ex r (fun ds => g (c :: ds)) cs = 0
    grind
theorem ex_step (a b : Nat → R) (c : Nat) (cs : List Nat) (g : List Nat → R) : ex a (ex b g) (c :: cs) = a c * ex b g cs - (b c * ex a g cs - ex a (ex b fun es => g (c :: es)) cs) := by
  have e := ex_fun a (b c) cs g (ex b fun es => g (c :: es))
  show a c * ex b g cs - ex a (fun ds => ex b g (c :: ds)) cs = _
  rw [← e]
  rfl
theorem ex_swap (a b : Nat → R) : ∀ (cs : List Nat) (g : List Nat → R), ex a (ex b g) cs = -(ex b (ex a g) cs)
  | [], g => by
    show (0 : R) = -0
    grind
  | c :: cs, g => by
    have := ex_swap a b cs fun es => g (c :: es)
    rw [ex_step, ex_step]
    grind
theorem ex_twice (a : Nat → R) : ∀ (cs : List Nat) (g : List Nat → R), ex a (ex a g) cs = 0
  | [], g => rfl
  | c :: cs, g => by
    have := ex_twice a cs fun es => g (c :: es)
    rw [ex_step]
    grind
theorem dt_dup {a : Nat → R} : ∀ {zs : List (Nat → R)}, a ∈ zs → ∀ cs, ex a (dt zs) cs = 0
  | [], h, _ => by cases h
  | b :: zs, h, cs => by
    by_cases e : a = b
    · subst e
      exact ex_twice a cs _
    · have h' : a ∈ zs := (List.mem_cons.mp h).resolve_left e
      show ex a (ex b (dt zs)) cs = 0
      rw [ex_swap, ex_zero b cs _ fun ds => dt_dup h' ds]
      grind
/-- a row that is nought at all the places but the first -/
theorem ex_none {r : Nat → R} : ∀ {ps : List Nat} (g : List Nat → R), (∀ p ∈ ps, r p = 0) → ex r g ps = 0
  | [], g, _ => rfl
  | p :: ps, g, h => by
    have e1 := ex_none (fun ds => g (p :: ds)) fun q hq => h q (List.mem_cons_of_mem _ hq)
    have e2 := h p (List.mem_cons_self ..)
    show r p * g ps - ex r (fun ds => g (p :: ds)) ps = 0
    grind
theorem ex_first {r : Nat → R} {ps : List Nat} (g : List Nat → R) (j : Nat) (h : ∀ p ∈ ps, r p = 0) : ex r g (j :: ps) = r j * g ps := by
  have e1 := ex_none (r := r) (fun ds => g (j :: ds)) h
  show r j * g ps - ex r (fun ds => g (j :: ds)) ps = _
  grind
end
section
variable {F : Type} [Field F]
theorem ex_span {zs : List (Vec F)} {v : Vec F} (h : Sp zs v) (cs : List Nat) : ex v (dt zs) cs = 0 := by
  induction h with
  | zero => exact ex_none _ fun _ _ => rfl
  | step c h _ ih =>
    rw [ex_row, ih, dt_dup h]
    grind
/-- the row o, swept at the places ps by what zs make -/
theorem swept_told {zs : List (Vec F)} {o x : Vec F} {k : F} {ps : List Nat} (h : Sp zs (fun j => o j + (-k) * x j)) (h0 : ∀ p ∈ ps, x p = 0) (j : Nat) : dt (o :: zs) (j :: ps) = k * x j * dt zs ps := by
  have e1 := ex_span h (j :: ps)
  rw [ex_row, ex_first _ j h0] at e1
  show ex o (dt zs) (j :: ps) = _
  grind
end
/-! ### whole numbers -/
section
open St
variable {f : Int} {D : Fd f}
theorem ofI_sub (s t : Int) : letI := D.fld; D.ofI (s - t) = D.ofI s - D.ofI t := by
  letI := D.fld
  rw [Int.sub_eq_add_neg, D.ofI_add, ofI_neg]
  grind
def im (D : Fd f) (z : Nat → Int) : Vec D.F := fun j => D.ofI (z j)
theorem ex_im (r : Nat → Int) : ∀ (cs : List Nat) (g : List Nat → Int), letI := D.fld; ex (im D r) (fun ds => D.ofI (g ds)) cs = D.ofI (ex r g cs)
  | [], g => ofI_zero.symm
  | c :: cs, g => by
    letI := D.fld
    have := ex_im r cs fun ds => g (c :: ds)
    show D.ofI (r c) * D.ofI (g cs) - ex (im D r) (fun ds => D.ofI (g (c :: ds))) cs = D.ofI (r c * g cs - ex r (fun ds => g (c :: ds)) cs)
    rw [ofI_sub, D.ofI_mul, this]
theorem dt_im : ∀ (zs : List (Nat → Int)) (cs : List Nat), letI := D.fld; dt (zs.map (im D)) cs = D.ofI (dt zs cs)
  | [], [] => D.ofI_one.symm
  | [], _ :: _ => ofI_zero.symm
  | z :: zs, cs => by
    letI := D.fld
    have e : dt (zs.map (im D)) = fun ds => D.ofI (dt zs ds) := funext fun ds => dt_im zs ds
    show ex (im D z) (dt (zs.map (im D))) cs = D.ofI (ex z (dt zs) cs)
    rw [e, ex_im]
theorem ex_abs {r : Nat → Int} {A : Nat} (hr : ∀ j, (r j).natAbs ≤ A) : ∀ (cs : List Nat) (g : List Nat → Int) (B : Nat), (∀ ds, ds.length + 1 = cs.length → (g ds).natAbs ≤ B) → (ex r g cs).natAbs ≤ cs.length * (A * B)
  | [], g, B, _ => Nat.le_of_eq (by show (0 : Int).natAbs = 0 * _; simp)
  | c :: cs, g, B, h => by
    have h1 := ex_abs hr cs (fun ds => g (c :: ds)) B fun ds hd => h _ (by show ds.length + 1 + 1 = cs.length + 1; omega)
    have h2 := h cs rfl
    have h3 : (r c * g cs).natAbs ≤ A * B := by
      rw [Int.natAbs_mul]
      exact Nat.mul_le_mul (hr c) h2
    show (r c * g cs - ex r (fun ds => g (c :: ds)) cs).natAbs ≤ (cs.length + 1) * (A * B)
    rw [Nat.succ_mul]
    omega
def fact : Nat → Nat
  | 0 => 1
  | n + 1 => (n + 1) * fact n
/-- rows, and how great their numbers are -/
def Bits : List (Nat → Int) → Nat → Prop
  | [], s => 0 ≤ s
  | z :: zs, s => ∃ a b, (∀ j, (z j).natAbs < 2 ^ a) ∧ Bits zs b ∧ a + b ≤ s
theorem dt_abs : ∀ {zs : List (Nat → Int)} {s : Nat} {cs : List Nat}, Bits zs s → cs.length = zs.length → (dt zs cs).natAbs ≤ fact zs.length * 2 ^ s
  | [], s, [], _, _ => by
    show 1 ≤ 1 * 2 ^ s
    have := Nat.two_pow_pos s
    omega
  | z :: zs, s, cs, ⟨a, b, ha, hb, hs⟩, hl => by
    have h := ex_abs (fun j => Nat.le_of_lt (ha j)) cs (dt zs) (fact zs.length * 2 ^ b) fun ds hd => dt_abs hb (by
      have hl : cs.length = zs.length + 1 := hl
      omega)
    have e : cs.length * (2 ^ a * (fact zs.length * 2 ^ b)) = fact (z :: zs).length * 2 ^ (a + b) := by
      rw [hl]
      show (zs.length + 1) * _ = ((zs.length + 1) * fact zs.length) * _
      rw [Nat.pow_add]
      ac_rfl
    rw [e] at h
    exact Nat.le_trans h (Nat.mul_le_mul_left _ (Nat.pow_le_pow_right (by decide) hs))
/-- a row swept by whole rows: all of it over one bottom, no greater than the rows together -/
theorem Ht.swept {zs : List (Nat → Int)} {o : Nat → Int} {d : Int} {x : Vec D.F} {ps : List Nat} {a b c m : Nat} (hd : letI := D.fld; D.ofI d ≠ 0) (h : letI := D.fld; Sp (zs.map (im D)) (fun j => im D o j + (-(D.ofI d)) * x j)) (h0 : letI := D.fld; ∀ p ∈ ps, x p = 0)
    (hn : letI := D.fld; D.ofI (dt zs ps) ≠ 0) (hl : ps.length = zs.length) (ho : ∀ j, (o j).natAbs < 2 ^ a) (hd2 : d.natAbs < 2 ^ a) (hz : Bits zs b) (hf : fact (zs.length + 1) < 2 ^ c) (hm : a + b + c ≤ m) : Ht D m x := by
  letI := D.fld
  have hb1 := dt_abs (cs := ps) hz hl
  have hk : fact zs.length ≤ fact (zs.length + 1) := by
    show _ ≤ (zs.length + 1) * fact zs.length
    rw [Nat.succ_mul]
    exact Nat.le_add_left _ _
  have e2 : 2 ^ (a + b + c) = 2 ^ c * 2 ^ (a + b) := by
    rw [Nat.pow_add, Nat.mul_comm]
  have up : 2 ^ (a + b + c) ≤ 2 ^ m := Nat.pow_le_pow_right (by decide) hm
  refine ⟨d * dt zs ps, fun j => dt (o :: zs) (j :: ps), ?_, ?_, fun j => ⟨?_, ?_⟩⟩
  · rw [D.ofI_mul]
    grind
  · rw [Int.natAbs_mul]
    refine Nat.lt_of_lt_of_le ?_ up
    have h1 : d.natAbs * (dt zs ps).natAbs ≤ 2 ^ a * (fact zs.length * 2 ^ b) := Nat.mul_le_mul (Nat.le_of_lt hd2) hb1
    have h2 : 2 ^ a * (fact zs.length * 2 ^ b) = fact zs.length * 2 ^ (a + b) := by
      rw [Nat.pow_add]
      ac_rfl
    rw [h2] at h1
    rw [e2]
    refine Nat.lt_of_le_of_lt h1 ?_
    exact Nat.mul_lt_mul_of_pos_right (Nat.lt_of_le_of_lt hk hf) (Nat.two_pow_pos _)
  · have h1 := dt_abs (zs := o :: zs) (s := a + b) (cs := j :: ps) ⟨a, b, ho, hz, Nat.le_refl _⟩ (by show ps.length + 1 = zs.length + 1; omega)
    refine Nat.lt_of_lt_of_le ?_ up
    rw [e2]
    refine Nat.lt_of_le_of_lt h1 ?_
    exact Nat.mul_lt_mul_of_pos_right hf (Nat.two_pow_pos _)
  · have h1 := swept_told (o := im D o) (x := x) (k := D.ofI d) h h0 j
    have h2 := dt_im (D := D) (o :: zs) (j :: ps)
    have h3 := dt_im (D := D) zs ps
    have h2 : dt (im D o :: zs.map (im D)) (j :: ps) = D.ofI (dt (o :: zs) (j :: ps)) := h2
    rw [h2, h3] at h1
    show x j = D.ofI (dt (o :: zs) (j :: ps)) * (D.ofI (d * dt zs ps))⁻¹
    rw [h1, D.ofI_mul]
    generalize D.ofI (dt zs ps) = A at *
    generalize D.ofI d = B at *
    grind
end
end Lin
/-! Heights along the program's steps. -/
namespace Lin
open Lean.Grind St
section
variable {f : Int} {D : Fd f}
theorem fact_le {n m : Nat} (h : n ≤ m) : fact n ≤ fact m := by
  induction h with
  | refl => exact Nat.le_refl _
  | step _ ih =>
    rename_i k _
    refine Nat.le_trans ih ?_
    show fact k ≤ (k + 1) * fact k
    rw [Nat.succ_mul]
    exact Nat.le_add_left _ _
/-- x is the first row o / d, swept by what zs make, nought at ps -/
def Org (D : Fd f) (zs : List (Nat → Int)) (ps : List Nat) (x : Vec D.F) (a : Nat) : Prop := letI := D.fld
  ∃ (o : Nat → Int) (d : Int), D.ofI d ≠ 0 ∧ Sp (zs.map (im D)) (fun j => im D o j + (-(D.ofI d)) * x j) ∧ (∀ p ∈ ps, x p = 0) ∧ (∀ j, (o j).natAbs < 2 ^ a) ∧ d.natAbs < 2 ^ a
def OrgL (D : Fd f) (zs : List (Nat → Int)) (ps : List Nat) : List (Vec D.F) → Nat → Prop
  | [], _ => True
  | x :: xs, s => ∃ a b, Org D zs ps x a ∧ OrgL D zs ps xs b ∧ a + b ≤ s
theorem OrgL.mem {zs : List (Nat → Int)} {ps : List Nat} {x : Vec D.F} : ∀ {xs : List (Vec D.F)} {s : Nat}, OrgL D zs ps xs s → x ∈ xs → ∃ a, a ≤ s ∧ Org D zs ps x a
  | [], _, _, h => by cases h
  | y :: xs, s, ⟨a, b, ha, hb, hs⟩, h => by
    rcases List.mem_cons.mp h with rfl | h
    · exact ⟨a, by omega, ha⟩
    · obtain ⟨c, hc, k⟩ := OrgL.mem hb h
      exact ⟨c, by omega, k⟩
theorem OrgL.pick {zs : List (Nat → Int)} {ps : List Nat} {x : Vec D.F} : ∀ {xs : List (Vec D.F)} {s i : Nat}, OrgL D zs ps xs s → xs[i]? = some x → ∃ a b, Org D zs ps x a ∧ OrgL D zs ps (xs.take i ++ xs.drop (i + 1)) b ∧ a + b ≤ s
  | [], _, _, _, h => by simp at h
  | y :: xs, s, 0, ⟨a, b, ha, hb, hs⟩, h => by
    have e : y = x := by simpa using h
    subst e
    exact ⟨a, b, ha, hb, hs⟩
  | y :: xs, s, i + 1, ⟨a, b, ha, hb, hs⟩, h => by
    obtain ⟨a', b', h1, h2, h3⟩ := OrgL.pick (i := i) hb (by simpa using h)
    exact ⟨a', a + b', h1, ⟨a, b', ha, h2, Nat.le_refl _⟩, by omega⟩
theorem OrgL.map {zs ys : List (Nat → Int)} {ps qs : List Nat} {g : Vec D.F → Vec D.F} : ∀ {xs : List (Vec D.F)} {s : Nat}, (∀ x ∈ xs, ∀ a, Org D zs ps x a → Org D ys qs (g x) a) → OrgL D zs ps xs s → OrgL D ys qs (xs.map g) s
  | [], _, _, _ => True.intro
  | x :: xs, s, h, ⟨a, b, ha, hb, hs⟩ => ⟨a, b, h x (List.mem_cons_self ..) a ha, OrgL.map (fun y hy => h y (List.mem_cons_of_mem _ hy)) hb, hs⟩
/-- rows on their way, none of their numbers ever above 2 ^ m -/
def Lv (D : Fd f) (m : Nat) (left : List (Vec D.F)) : Prop := letI := D.fld
  ∃ (zs : List (Nat → Int)) (ps : List Nat) (b s c : Nat), Bits zs b ∧ OrgL D zs ps left s ∧ D.ofI (dt zs ps) ≠ 0 ∧ ps.length = zs.length ∧ fact (zs.length + left.length) < 2 ^ c ∧ s + b + c ≤ m
theorem Lv.ht {m : Nat} {left : List (Vec D.F)} {x : Vec D.F} (h : Lv D m left) (hx : x ∈ left) : Ht D m x := by
  letI := D.fld
  obtain ⟨zs, ps, b, s, c, hz, ho, hn, hl, hf, hm⟩ := h
  obtain ⟨a, ha, o, d, h1, h2, h3, h4, h5⟩ := ho.mem hx
  have hp : 0 < left.length := List.length_pos_of_mem hx
  exact Ht.swept h1 h2 h3 hn hl h4 h5 hz (Nat.lt_of_le_of_lt (fact_le (by omega)) hf) (by omega)
theorem Lv.step {m i p : Nat} {left : List (Vec D.F)} {x : Vec D.F} (h : Lv D m left) (hi : left[i]? = some x) (hp : letI := D.fld; x p ≠ 0) :
    letI := D.fld; Lv D m ((left.take i ++ left.drop (i + 1)).map fun y => fun j => y j + (-(y p)) * ((x p)⁻¹ * x j)) := by
  letI := D.fld
  obtain ⟨zs, ps, b, s, c, hz, ho, hn, hl, hf, hm⟩ := h
  obtain ⟨a, b', ⟨o, d, h1, h2, h3, h4, h5⟩, hr, hs⟩ := ho.pick hi
  have hlt := (List.getElem?_eq_some_iff.mp hi).1
  have e1 : D.ofI (dt (o :: zs) (p :: ps)) = D.ofI d * x p * D.ofI (dt zs ps) := by
    rw [← dt_im (D := D) (o :: zs) (p :: ps), ← dt_im (D := D) zs ps]
    exact swept_told h2 h3 p
  have up : ∀ {v : Vec D.F}, Sp (zs.map (im D)) v → Sp ((o :: zs).map (im D)) v := fun h => h.mono fun y hy => List.mem_cons_of_mem _ hy
  have hx : Sp ((o :: zs).map (im D)) x := by
    have g := up h2
    have g0 : Sp ((o :: zs).map (im D)) (im D o) := .gen (List.mem_cons_self ..)
    exact ((g0.lin (-1) g).mul (D.ofI d)⁻¹).cast fun j => by
      generalize D.ofI d = A at *
      grind
  refine ⟨o :: zs, p :: ps, a + b, b', c, ⟨a, b, h4, hz, Nat.le_refl _⟩, OrgL.map (fun y _ a' hy => ?_) hr, ?_, by show ps.length + 1 = zs.length + 1; omega, ?_, by omega⟩
  · obtain ⟨o', d', g1, g2, g3, g4, g5⟩ := hy
    refine ⟨o', d', g1, ?_, fun q hq => ?_, g4, g5⟩
    · exact ((up g2).lin (D.ofI d' * y p * (x p)⁻¹) hx).cast fun j => by
        generalize D.ofI d' = A at *
        generalize im D o' j = B at *
        grind
    · rcases List.mem_cons.mp hq with rfl | hq
      · show y q + (-(y q)) * ((x q)⁻¹ * x q) = 0
        grind
      · have e2 := g3 q hq
        have e3 := h3 q hq
        show y q + (-(y p)) * ((x p)⁻¹ * x q) = 0
        rw [e2, e3]
        grind
  · rw [e1]
    generalize D.ofI (dt zs ps) = A at *
    generalize D.ofI d = B at *
    grind
  · have e : (o :: zs).length + ((left.take i ++ left.drop (i + 1)).map fun y => fun j => y j + (-(y p)) * ((x p)⁻¹ * x j)).length = zs.length + left.length := by
      rw [List.length_map, List.length_append, List.length_take, List.length_drop]
      show zs.length + 1 + _ = _
      omega
    rw [e]
    exact hf
/-- first rows, each over its own bottom -/
theorem Lv.start {c m : Nat} {left : List (Vec D.F)} {s : Nat} (h : OrgL D [] [] left s) (hf : fact left.length < 2 ^ c) (hm : s + c ≤ m) : Lv D m left := by
  letI := D.fld
  refine ⟨[], [], 0, s, c, Nat.le_refl _, h, ?_, rfl, ?_, by omega⟩
  · show D.ofI 1 ≠ 0
    rw [D.ofI_one]
    exact one_ne
  · show fact (0 + left.length) < _
    rw [Nat.zero_add]
    exact hf
theorem Org.start {a : Nat} {x : Vec D.F} (h : Ht D a x) : Org D [] [] x a := by
  letI := D.fld
  obtain ⟨d, z, h0, h1, h2⟩ := h
  refine ⟨z, d, h0, ?_, (fun p hp => by cases hp), fun j => (h2 j).1, h1⟩
  exact Sp.zero.cast fun j => by
    have e := (h2 j).2
    show 0 = D.ofI (z j) + (-(D.ofI d)) * x j
    rw [e]
    generalize D.ofI d = A at *
    generalize D.ofI (z j) = B at *
    grind
/-! ### rows that are ready: all of them over one bottom -/
def HtC (D : Fd f) (n : Nat) (rs : List (Vec D.F)) : Prop := letI := D.fld
  ∃ d : Int, D.ofI d ≠ 0 ∧ d.natAbs < 2 ^ n ∧ ∀ r ∈ rs, ∃ z : Nat → Int, ∀ j, (z j).natAbs < 2 ^ n ∧ r j = D.ofI (z j) * (D.ofI d)⁻¹
theorem HtC.ht {n : Nat} {rs : List (Vec D.F)} {r : Vec D.F} (h : HtC D n rs) (hr : r ∈ rs) : Ht D n r := by
  obtain ⟨d, h0, h1, h2⟩ := h
  obtain ⟨z, hz⟩ := h2 r hr
  exact ⟨d, z, h0, h1, hz⟩
/-- a row that is 1 at one of the places and nought at the others -/
theorem ex_unit {R : Type} [CommRing R] {r : Nat → R} {p : Nat} : ∀ {ps : List Nat} (g : List Nat → R), ps.Nodup → p ∈ ps → r p = 1 → (∀ q ∈ ps, q ≠ p → r q = 0) → ex r g ps = g (ps.erase p) ∨ ex r g ps = -(g (ps.erase p))
  | [], _, _, h, _, _ => by cases h
  | q :: ps, g, hn, hp, h1, h0 => by
    have hn' := List.nodup_cons.mp hn
    by_cases e : q = p
    · subst e
      refine .inl ?_
      have e2 := ex_none (r := r) (fun ds => g (q :: ds)) fun x hx => h0 x (List.mem_cons_of_mem _ hx) fun z => hn'.1 (z ▸ hx)
      rw [List.erase_cons_head]
      show r q * g ps - ex r (fun ds => g (q :: ds)) ps = g ps
      grind
    · have hp' : p ∈ ps := (List.mem_cons.mp hp).resolve_left fun z => e z.symm
      have e2 := h0 q (List.mem_cons_self ..) e
      have ee : (q :: ps).erase p = q :: ps.erase p := List.erase_cons_tail (by simpa using e)
      rw [ee]
      have ih := ex_unit (ps := ps) (fun ds => g (q :: ds)) hn'.2 hp' h1 fun x hx => h0 x (List.mem_cons_of_mem _ hx)
      show r q * g ps - ex r (fun ds => g (q :: ds)) ps = g (q :: ps.erase p) ∨ r q * g ps - ex r (fun ds => g (q :: ds)) ps = -(g (q :: ps.erase p))
      rcases ih with ih | ih
      · exact .inr (by grind)
      · exact .inl (by grind)
theorem HtC.ready {zs : List (Nat → Int)} {ps : List Nat} {rs : List (Vec D.F)} {b c n : Nat} (hz : Bits zs b) (hl : ps.length = zs.length) (hnd : ps.Nodup) (hn : letI := D.fld; D.ofI (dt zs ps) ≠ 0)
    (h : letI := D.fld; ∀ r ∈ rs, Sp (zs.map (im D)) r ∧ ∃ p ∈ ps, r p = 1 ∧ ∀ q ∈ ps, q ≠ p → r q = 0) (hf : fact zs.length < 2 ^ c) (hm : b + c ≤ n) : HtC D n rs := by
  letI := D.fld
  have up : 2 ^ (c + b) ≤ 2 ^ n := Nat.pow_le_pow_right (by decide) (by omega)
  have big : ∀ {qs : List Nat}, qs.length = zs.length → (dt zs qs).natAbs < 2 ^ n := fun h => by
    refine Nat.lt_of_lt_of_le (Nat.lt_of_le_of_lt (dt_abs hz h) ?_) up
    rw [Nat.pow_add]
    exact Nat.mul_lt_mul_of_pos_right hf (Nat.two_pow_pos _)
  refine ⟨dt zs ps, hn, big hl, fun r hr => ?_⟩
  obtain ⟨hs, p, hp, h1, h0⟩ := h r hr
  have key : ∀ j, ∃ z : Int, z.natAbs < 2 ^ n ∧ r j = D.ofI z * (D.ofI (dt zs ps))⁻¹ := fun j => by
    have e1 := ex_span hs (j :: ps)
    have e2 : r j * dt (zs.map (im D)) ps - ex r (fun ds => dt (zs.map (im D)) (j :: ds)) ps = 0 := e1
    have hq : (j :: ps.erase p).length = zs.length := by
      have := List.length_erase_of_mem hp
      have : 0 < ps.length := List.length_pos_of_mem hp
      show (ps.erase p).length + 1 = zs.length
      omega
    rcases ex_unit (fun ds => dt (zs.map (im D)) (j :: ds)) hnd hp h1 h0 with e3 | e3
    · refine ⟨dt zs (j :: ps.erase p), big hq, ?_⟩
      rw [e3, dt_im, dt_im] at e2
      generalize D.ofI (dt zs ps) = A at *
      generalize D.ofI (dt zs (j :: ps.erase p)) = B at *
      grind
    · refine ⟨-(dt zs (j :: ps.erase p)), by rw [Int.natAbs_neg]; exact big hq, ?_⟩
      rw [e3, dt_im, dt_im] at e2
      rw [ofI_neg]
      generalize D.ofI (dt zs ps) = A at *
      generalize D.ofI (dt zs (j :: ps.erase p)) = B at *
      grind
  exact ⟨fun j => (key j).choose, fun j => (key j).choose_spec⟩
end
end Lin
/-! Heights of the whole reducing, over lists. -/
namespace Lin
open Lean.Grind St
section
variable {f : Int} {D : Fd f}
theorem steps_none {F : Type} [Field F] [DecidableEq F] {n p : Nat} {left : List (List F)} (h : fst left p = none) : steps (List.range' p (n + 1)) left = steps (List.range' (p + 1) n) left := by
  show steps (p :: List.range' (p + 1) n) left = _
  conv => lhs; unfold steps
  rw [h]
theorem steps_some {F : Type} [Field F] [DecidableEq F] {n p i : Nat} {left : List (List F)} {r : List F} (h : fst left p = some i) (hr : left[i]? = some r) :
    steps (List.range' p (n + 1)) left = (p, scl r p) :: steps (List.range' (p + 1) n) ((cut left i).map fun x => swp x (scl r p) p) := by
  show steps (p :: List.range' (p + 1) n) left = _
  rw [← getD_of hr]
  conv => lhs; unfold steps
  rw [h]
theorem left_vec {w i p : Nat} {left : List (List D.F)} {r : List D.F} (L : letI := D.fld; Left w p left) (hr : left[i]? = some r) :
    letI := D.fld; letI := D.dec; ((cut left i).map fun x => swp x (scl r p) p).map vec = ((left.map vec).take i ++ (left.map vec).drop (i + 1)).map fun y => fun j => y j + (-(y p)) * ((vec r p)⁻¹ * vec r j) := by
  letI := D.fld
  letI := D.dec
  rw [← List.map_take, ← List.map_drop, ← List.map_append, List.map_map, List.map_map]
  refine List.map_congr_left fun x hx => funext fun j => ?_
  have hx : x ∈ cut left i := hx
  have l1 := L.len x ((cut_mem hr).mpr (.inr hx))
  have l2 := L.len r (List.mem_of_getElem? hr)
  show vec (swp x (scl r p) p) j = vec x j + (-(vec x p)) * ((vec r p)⁻¹ * vec r j)
  rw [swp_vec (by rw [scl_len]; omega), scl_vec]
theorem lv_next {m w i p : Nat} {left : List (List D.F)} {r : List D.F} (L : letI := D.fld; Left w p left) (h : letI := D.fld; Lv D m (left.map vec)) (hr : left[i]? = some r) (hne : letI := D.fld; vec r p ≠ 0) :
    letI := D.fld; letI := D.dec; Lv D m (((cut left i).map fun x => swp x (scl r p) p).map vec) := by
  letI := D.fld
  letI := D.dec
  rw [left_vec L hr]
  exact h.step (by rw [List.getElem?_map, hr]; rfl) hne
theorem scl_ht {m p : Nat} {r : List D.F} (h : letI := D.fld; Ht D m (vec r)) (hne : letI := D.fld; vec r p ≠ 0) : letI := D.fld; letI := D.dec; Ht D m (vec (scl r p)) := by
  letI := D.fld
  letI := D.dec
  have e : vec (scl r p) = fun j => (vec r p)⁻¹ * vec r j := funext fun j => scl_vec j
  rw [e]
  exact h.scl hne
/-- what the steps end in: whole rows that make all of them, and their places -/
theorem steps_end {w c : Nat} : letI := D.fld; letI := D.dec; ∀ (n p : Nat) (left : List (List D.F)) (zs : List (Nat → Int)) (ps : List Nat) (b s : Nat), p + n = w → Left w p left → Bits zs b → OrgL D zs ps (left.map vec) s → D.ofI (dt zs ps) ≠ 0 → ps.length = zs.length → fact (zs.length + left.length) < 2 ^ c →
    ∃ (zs' : List (Nat → Int)) (ps' : List Nat) (b' : Nat), Bits zs' b' ∧ b' ≤ b + s ∧ D.ofI (dt zs' ps') ≠ 0 ∧ ps'.length = zs'.length ∧ fact zs'.length < 2 ^ c ∧ ps' = ((steps (List.range' p n) left).map (·.1)).reverse ++ ps ∧ (∀ z ∈ zs, z ∈ zs') ∧ ∀ a ∈ steps (List.range' p n) left, Sp (zs'.map (im D)) (vec a.2) := by
  letI := D.fld
  letI := D.dec
  intro n
  induction n with
  | zero =>
    intro p left zs ps b s hw L hz ho hn hl hf
    exact ⟨zs, ps, b, hz, by omega, hn, hl, Nat.lt_of_le_of_lt (fact_le (by omega)) hf, rfl, fun z h => h, (fun a h => by cases h)⟩
  | succ n ih =>
    intro p left zs ps b s hw L hz ho hn hl hf
    cases h : fst left p with
    | none =>
      rw [steps_none h]
      exact ih (p + 1) left zs ps b s (by omega) (left_none L h) hz ho hn hl hf
    | some i =>
      obtain ⟨r, hr, hne⟩ := fst_some h
      rw [steps_some h hr]
      show ∃ (zs' : List (Nat → Int)) (ps' : List Nat) (b' : Nat), Bits zs' b' ∧ b' ≤ b + s ∧ D.ofI (dt zs' ps') ≠ 0 ∧ ps'.length = zs'.length ∧ fact zs'.length < 2 ^ c ∧ ps' = (((p, scl r p) :: steps (List.range' (p + 1) n) ((cut left i).map fun x => swp x (scl r p) p)).map (·.1)).reverse ++ ps ∧ (∀ z ∈ zs, z ∈ zs') ∧
        ∀ a ∈ (p, scl r p) :: steps (List.range' (p + 1) n) ((cut left i).map fun x => swp x (scl r p) p), Sp (zs'.map (im D)) (vec a.2)
      obtain ⟨a, b', ⟨o, d, h1, h2, h3, h4, h5⟩, hrr, hs⟩ := ho.pick (x := vec r) (i := i) (by rw [List.getElem?_map, hr]; rfl)
      have up : ∀ {v : Vec D.F}, Sp (zs.map (im D)) v → Sp ((o :: zs).map (im D)) v := fun h => h.mono fun y hy => List.mem_cons_of_mem _ hy
      have hx : Sp ((o :: zs).map (im D)) (vec r) := by
        have g := up h2
        have g0 : Sp ((o :: zs).map (im D)) (im D o) := .gen (List.mem_cons_self ..)
        exact ((g0.lin (-1) g).mul (D.ofI d)⁻¹).cast fun j => by
          generalize D.ofI d = A at *
          grind
      have e1 : D.ofI (dt (o :: zs) (p :: ps)) = D.ofI d * vec r p * D.ofI (dt zs ps) := by
        rw [← dt_im (D := D) (o :: zs) (p :: ps), ← dt_im (D := D) zs ps]
        exact swept_told h2 h3 p
      have hn' : D.ofI (dt (o :: zs) (p :: ps)) ≠ 0 := by
        rw [e1]
        generalize D.ofI (dt zs ps) = A at *
        generalize D.ofI d = B at *
        grind
      have ho' : OrgL D (o :: zs) (p :: ps) (((cut left i).map fun x => swp x (scl r p) p).map vec) b' := by
        rw [left_vec L hr]
        refine OrgL.map (fun y _ a' hy => ?_) hrr
        obtain ⟨o', d', g1, g2, g3, g4, g5⟩ := hy
        refine ⟨o', d', g1, ?_, fun q hq => ?_, g4, g5⟩
        · exact ((up g2).lin (D.ofI d' * y p * (vec r p)⁻¹) hx).cast fun j => by
            generalize D.ofI d' = A at *
            generalize im D o' j = B at *
            grind
        · rcases List.mem_cons.mp hq with rfl | hq
          · show y q + (-(y q)) * ((vec r q)⁻¹ * vec r q) = 0
            grind
          · have e2 := g3 q hq
            have e3 := h3 q hq
            show y q + (-(y p)) * ((vec r p)⁻¹ * vec r q) = 0
            rw [e2, e3]
            grind
      have lc := cut_len hr
      obtain ⟨zs', ps', b2, k1, k2, k3, k4, k5, k6, k7, k8⟩ := ih (p + 1) _ (o :: zs) (p :: ps) (a + b) b' (by omega) (left_step L hr hne) ⟨a, b, h4, hz, Nat.le_refl _⟩ ho' hn' (by show ps.length + 1 = zs.length + 1; omega) (by
        rw [List.length_map]
        have e : (o :: zs).length + (cut left i).length = zs.length + left.length := by
          show zs.length + 1 + _ = _
          omega
        rw [e]
        exact hf)
      refine ⟨zs', ps', b2, k1, by omega, k3, k4, k5, ?_, fun z hz => k7 z (List.mem_cons_of_mem _ hz), fun x hx2 => ?_⟩
      · rw [k6, List.map_cons, List.reverse_cons, List.append_assoc]
        rfl
      · rcases List.mem_cons.mp hx2 with rfl | hx2
        · have hx := hx.mono (ss := zs'.map (im D)) fun y hy => by
            obtain ⟨z, hz, rfl⟩ := List.mem_map.mp hy
            exact List.mem_map_of_mem (k7 z hz)
          exact (hx.mul (vec r p)⁻¹).cast fun j => (scl_vec j).symm
        · exact k8 x hx2
theorem steps_ht {m w : Nat} : letI := D.fld; letI := D.dec; ∀ (n p : Nat) (left : List (List D.F)), p + n = w → Left w p left → Lv D m (left.map vec) → ∀ a ∈ steps (List.range' p n) left, Ht D m (vec a.2) := by
  letI := D.fld
  letI := D.dec
  intro n
  induction n with
  | zero => intro p left _ _ _ a ha; cases ha
  | succ n ih =>
    intro p left hw L h a ha
    cases hh : fst left p with
    | none =>
      rw [steps_none hh] at ha
      exact ih (p + 1) left (by omega) (left_none L hh) h a ha
    | some i =>
      obtain ⟨r, hr, hne⟩ := fst_some hh
      rw [steps_some hh hr] at ha
      rcases List.mem_cons.mp ha with rfl | ha
      · exact scl_ht (h.ht (List.mem_map_of_mem (List.mem_of_getElem? hr))) hne
      · exact ih (p + 1) _ (by omega) (left_step L hr hne) (lv_next L h hr hne) a ha
/-- swept by rows that are ready -/
theorem clean_ht {w m n : Nat} {row : List D.F} {rs : List (Vec D.F)} (C : HtC D n rs) (hrow : row.length = w) : letI := D.fld; letI := D.dec; Ht D m (vec row) → ∀ {B : List (Ll D.F)}, RedU (vecs B) → (∀ d ∈ B, d.2.length = w) → (∀ d ∈ B, vec d.2 ∈ rs) → Ht D (m + n + B.length) (vec (clean row B)) := by
  letI := D.fld
  letI := D.dec
  intro hr B R hl hm
  obtain ⟨e, e0, e1, e2⟩ := C
  obtain ⟨d, z, d0, d1, d2⟩ := hr
  have key : ∀ {B : List (Ll D.F)}, RedU (vecs B) → (∀ d ∈ B, d.2.length = w) → (∀ d ∈ B, vec d.2 ∈ rs) → ∃ y : Nat → Int, ∀ j, (y j).natAbs < 2 ^ (m + n + B.length) ∧ vec (clean row B) j = D.ofI (y j) * (D.ofI (d * e))⁻¹ := by
    intro B
    induction B with
    | nil =>
      intro _ _ _
      refine ⟨fun j => z j * e, fun j => ⟨?_, ?_⟩⟩
      · show (z j * e).natAbs < 2 ^ (m + n)
        rw [Int.natAbs_mul]
        exact two_pow (d2 j).1 e1
      · show vec row j = D.ofI (z j * e) * (D.ofI (d * e))⁻¹
        rw [(d2 j).2, D.ofI_mul, D.ofI_mul]
        generalize D.ofI d = A at *
        generalize D.ofI e = B at *
        generalize D.ofI (z j) = X
        grind
    | cons a B ih =>
      intro R hl hm
      have hla := hl a (List.mem_cons_self ..)
      obtain ⟨y, hy⟩ := ih R.tail (fun x hx => hl x (List.mem_cons_of_mem _ hx)) fun x hx => hm x (List.mem_cons_of_mem _ hx)
      obtain ⟨c1, c2, _⟩ := clean_ok hrow R.tail fun x hx => hl x (List.mem_cons_of_mem _ hx)
      obtain ⟨u, hu⟩ := e2 (vec a.2) (hm a (List.mem_cons_self ..))
      have ep : vec (clean row B) a.1 = vec row a.1 := c2 a.1 fun x hx => by
        have h : a.1 ≠ x.1 := (List.pairwise_cons.mp R.dist).1 (x.1, vec x.2) (List.mem_map_of_mem hx)
        exact R.alone (x.1, vec x.2) (List.mem_cons_of_mem _ (List.mem_map_of_mem hx)) (a.1, vec a.2) (List.mem_cons_self ..) fun z => h z.symm
      have el : 2 ^ (m + n) ≤ 2 ^ (m + n + B.length) := Nat.pow_le_pow_right (by decide) (by omega)
      refine ⟨fun j => y j + -(z a.1 * u j), fun j => ⟨?_, ?_⟩⟩
      · have h1 := (hy j).1
        have h2 : (z a.1 * u j).natAbs < 2 ^ (m + n) := by
          rw [Int.natAbs_mul]
          exact two_pow (d2 a.1).1 (hu j).1
        show (y j + -(z a.1 * u j)).natAbs < 2 ^ (m + n + (B.length + 1))
        have h3 := Int.natAbs_add_le (y j) (-(z a.1 * u j))
        rw [Int.natAbs_neg] at h3
        rw [← Nat.add_assoc, Nat.pow_succ]
        omega
      · have e3 : vec (clean row (a :: B)) j = vec (clean row B) j + (-(vec (clean row B) a.1)) * vec a.2 j := by
          show vec (swp (clean row B) a.2 a.1) j = _
          rw [swp_vec (by omega)]
        rw [e3, ep, (hy j).2, (d2 a.1).2, (hu j).2, D.ofI_add, ofI_neg, D.ofI_mul, D.ofI_mul]
        generalize D.ofI d = A at *
        generalize D.ofI e = E at *
        generalize D.ofI (z a.1) = X at *
        generalize D.ofI (u j) = Y at *
        generalize D.ofI (y j) = Z at *
        grind
  obtain ⟨y, hy⟩ := key R hl hm
  refine ⟨d * e, y, ?_, ?_, hy⟩
  · rw [D.ofI_mul]
    grind
  · rw [Int.natAbs_mul]
    exact Nat.lt_of_lt_of_le (two_pow d1 e1) (Nat.pow_le_pow_right (by decide) (by omega))
/-- any last part of the steps, made ready -/
theorem back_htc {w m s c : Nat} {rows : List (List D.F)} : letI := D.fld; letI := D.dec; (∀ r ∈ rows, r.length = w) → OrgL D [] [] (rows.map vec) s → fact rows.length < 2 ^ c → s + c ≤ m →
    ∀ A B : List (Ll D.F), steps (List.range' 0 w) rows = A ++ B → HtC D m (rowsOf (vecs (back B))) := by
  letI := D.fld
  letI := D.dec
  intro hl ho hf hm A B e
  obtain ⟨zs, ps, b, k1, k2, k3, k4, k5, k6, _, k8⟩ := steps_end (c := c) w 0 rows [] [] 0 s (Nat.zero_add w) (left_start hl) (Nat.le_refl _) ho (by show D.ofI 1 ≠ 0; rw [D.ofI_one]; exact one_ne) rfl (by show fact (0 + rows.length) < _; rw [Nat.zero_add]; exact hf)
  obtain ⟨E, hw, _, _, _⟩ := steps_ok w 0 rows (Nat.zero_add w) (left_start hl)
  rw [e] at k6 k8 E hw
  rw [List.append_nil] at k6
  have EB : Ech (vecs B) := by
    have h := E.up
    rw [show vecs (A ++ B) = vecs A ++ vecs B from List.map_append ..] at h
    refine ⟨(List.pairwise_append.mp h).2.1, fun a ha => E.one a ?_, fun a ha => E.ahead a ?_⟩ <;> exact (by rw [show vecs (A ++ B) = vecs A ++ vecs B from List.map_append ..]; exact List.mem_append_right _ ha)
  obtain ⟨R, hm2, hlen, g1, g2⟩ := back_ok EB fun a ha => (hw a (List.mem_append_right _ ha)).2.2
  have nd : ps.Nodup := by
    rw [k6]
    refine List.pairwise_reverse.mpr ?_
    have h := E.up
    rw [List.pairwise_map] at h ⊢
    exact h.imp fun h => by
      have h : _ < _ := h
      omega
  refine HtC.ready (b := b) (c := c) k1 k4 nd k3 (fun r hr => ?_) k5 (by omega)
  obtain ⟨y, hy, rfl⟩ := List.mem_map.mp hr
  obtain ⟨x, hx, rfl⟩ := List.mem_map.mp hy
  have hx1 : x.1 ∈ B.map (·.1) := by
    rw [← hm2]
    exact List.mem_map_of_mem hx
  refine ⟨(g1 x hx).trans fun v hv => ?_, x.1, ?_, R.one (x.1, vec x.2) hy, fun q hq ne => ?_⟩
  · obtain ⟨u, hu, rfl⟩ := List.mem_map.mp hv
    obtain ⟨t, ht, rfl⟩ := List.mem_map.mp hu
    exact k8 t (List.mem_append_right _ ht)
  · rw [k6, List.mem_reverse, List.map_append]
    exact List.mem_append_right _ hx1
  · rw [k6, List.mem_reverse, List.map_append] at hq
    rcases List.mem_append.mp hq with hq | hq
    · obtain ⟨a, ha, rfl⟩ := List.mem_map.mp hq
      obtain ⟨t, ht, e2⟩ := List.mem_map.mp hx1
      have h := E.up
      rw [List.pairwise_map] at h
      have lt : a.1 < t.1 := (List.pairwise_append.mp h).2.2 a ha t ht
      exact R.ahead (x.1, vec x.2) hy a.1 (by show a.1 < x.1; omega)
    · rw [← hm2] at hq
      obtain ⟨t, ht, rfl⟩ := List.mem_map.mp hq
      exact R.alone (x.1, vec x.2) hy (t.1, vec t.2) (List.mem_map_of_mem ht) fun z => ne z.symm
end
end Lin
/-! Heights of the law's own reducing. -/
namespace Lin
open Lean.Grind St
theorem clean_diff {F : Type} [Field F] [DecidableEq F] {w : Nat} {row : List F} (hrow : row.length = w) : ∀ {D : List (Ll F)}, (∀ d ∈ D, d.2.length = w) → (clean row D).length = w ∧ Sp (rowsOf (vecs D)) (fun j => vec row j + (-1) * vec (clean row D) j)
  | [], _ => ⟨hrow, Sp.zero.cast fun j => by
      show 0 = vec row j + (-1) * vec row j
      grind⟩
  | d :: D, hl => by
    obtain ⟨h1, h2⟩ := clean_diff hrow (D := D) fun e he => hl e (List.mem_cons_of_mem _ he)
    have hd := hl d (List.mem_cons_self ..)
    have e : clean row (d :: D) = swp (clean row D) d.2 d.1 := rfl
    refine ⟨by rw [e, swp_len (by omega)]; exact h1, ?_⟩
    have h3 : Sp (rowsOf (vecs (d :: D))) (fun j => vec row j + (-1) * vec (clean row D) j) := h2.mono fun y hy => List.mem_cons_of_mem _ hy
    have h4 : Sp (rowsOf (vecs (d :: D))) (vec d.2) := .gen (List.mem_cons_self ..)
    exact (h3.lin (vec (clean row D) d.1) h4).cast fun j => by
      rw [e, swp_vec (by omega)]
      grind
section
variable {f : Int} {D : Fd f}
/-- the kept rows on their way -/
structure Kst (D : Fd f) (w m c k s n : Nat) (rows : List (List D.F)) (kept : List (Ll D.F)) : Prop where
  ok : letI := D.fld; RedW w rows kept
  ex : letI := D.fld; ∃ (zs : List (Nat → Int)) (ps : List Nat) (b : Nat), Bits zs b ∧ b + s + c ≤ m ∧ D.ofI (dt zs ps) ≠ 0 ∧ ps.length = zs.length ∧ zs.length + n ≤ k ∧ ps.Nodup ∧ (∀ q, q ∈ ps ↔ ∃ d ∈ kept, d.1 = q) ∧ ∀ d ∈ kept, Sp (zs.map (im D)) (vec d.2)
theorem Kst.htc {w m c k s n : Nat} {rows : List (List D.F)} {kept : List (Ll D.F)} (h : Kst D w m c k s n rows kept) (hf : fact k < 2 ^ c) : letI := D.fld; HtC D m (rowsOf (vecs kept)) := by
  letI := D.fld
  obtain ⟨zs, ps, b, h1, h2, h3, h4, h5, h6, h7, h8⟩ := h.ex
  refine HtC.ready (c := c) h1 h4 h6 h3 (fun r hr => ?_) (Nat.lt_of_le_of_lt (fact_le (by omega)) hf) (by omega)
  obtain ⟨y, hy, rfl⟩ := List.mem_map.mp hr
  obtain ⟨x, hx, rfl⟩ := List.mem_map.mp hy
  refine ⟨h8 x hx, x.1, (h7 x.1).mpr ⟨x, hx, rfl⟩, h.ok.red.one _ hy, fun q hq ne => ?_⟩
  obtain ⟨d, hd, rfl⟩ := (h7 q).mp hq
  exact h.ok.red.alone (x.1, vec x.2) hy (d.1, vec d.2) (List.mem_map_of_mem hd) fun z => ne z.symm
theorem Kst.start {w m c k s n : Nat} (h : s + c ≤ m) (hn : n ≤ k) : Kst D w m c k s n [] [] := by
  letI := D.fld
  letI := D.dec
  refine ⟨lawRed_start, [], [], 0, Nat.le_refl _, by omega, ?_, rfl, by show 0 + n ≤ k; omega, .nil, (fun q => ⟨(fun h => by cases h), (fun ⟨_, h, _⟩ => by cases h)⟩), (fun d h => by cases h)⟩
  show D.ofI 1 ≠ 0
  rw [D.ofI_one]
  exact one_ne
theorem Kst.step {w m c k s n a : Nat} {rows : List (List D.F)} {kept : List (Ll D.F)} {r : List D.F} (h : Kst D w m c k (a + s) (n + 1) rows kept) (hr : r.length = w) (ha : letI := D.fld; Ht D a (vec r)) (hf : fact k < 2 ^ c) :
    letI := D.fld; letI := D.dec; Ht D m (vec (clean r kept.reverse)) ∧ Kst D w m c k s n (rows ++ [r]) (lawStep w kept r) := by
  letI := D.fld
  letI := D.dec
  obtain ⟨zs, ps, b, h1, h2, h3, h4, h5, h6, h7, h8⟩ := h.ex
  have RU : RedU (vecs kept.reverse) := by
    refine h.ok.red.perm ?_
    show (kept.map _).Perm (kept.reverse.map _)
    exact (List.reverse_perm kept).symm.map _
  have hl : ∀ d ∈ kept.reverse, d.2.length = w := fun d hd => h.ok.len d (List.mem_reverse.mp hd)
  obtain ⟨c1, c2, c3, c4, c5⟩ := clean_ok hr RU hl
  obtain ⟨_, cd⟩ := clean_diff hr hl
  have ok2 := law_step hr h.ok
  obtain ⟨d, z, d0, d1, d2⟩ := ha
  have hz0 : ∀ p ∈ ps, vec (clean r kept.reverse) p = 0 := fun p hp => by
    obtain ⟨x, hx, rfl⟩ := (h7 p).mp hp
    exact c3 x (List.mem_reverse.mpr hx)
  have hsp : Sp (zs.map (im D)) (fun j => im D z j + (-(D.ofI d)) * vec (clean r kept.reverse) j) := by
    have g := cd.trans (ss := zs.map (im D)) fun y hy => by
      obtain ⟨u, hu, rfl⟩ := List.mem_map.mp hy
      obtain ⟨x, hx, rfl⟩ := List.mem_map.mp hu
      exact h8 x (List.mem_reverse.mp hx)
    exact (g.mul (D.ofI d)).cast fun j => by
      have e := (d2 j).2
      show D.ofI d * (vec r j + -1 * vec (clean r kept.reverse) j) = D.ofI (z j) + _
      rw [e]
      generalize D.ofI d = A at *
      generalize D.ofI (z j) = B at *
      grind
  have hht : Ht D m (vec (clean r kept.reverse)) := Ht.swept (c := c) d0 hsp hz0 h3 h4 (fun j => (d2 j).1) d1 h1 (Nat.lt_of_le_of_lt (fact_le (by omega)) hf) (by omega)
  refine ⟨hht, ok2, ?_⟩
  have e : lawStep w kept r = match (List.range w).find? fun j => decide (vec (clean r kept.reverse) j ≠ 0) with
      | none => kept
      | some p => kept.map (fun d => (d.1, swp d.2 (scl (clean r kept.reverse) p) p)) ++ [(p, scl (clean r kept.reverse) p)] := by
    unfold lawStep
    rw [foldl_clean]
    try rfl
  rw [e]
  generalize clean r kept.reverse = x at *
  cases hfi : (List.range w).find? fun j => decide (vec x j ≠ 0) with
  | none => exact ⟨zs, ps, b, h1, by omega, h3, h4, by omega, h6, h7, h8⟩
  | some p =>
    obtain ⟨hp, hne, _⟩ := find_range hfi
    have e1 : D.ofI (dt (z :: zs) (p :: ps)) = D.ofI d * vec x p * D.ofI (dt zs ps) := by
      rw [← dt_im (D := D) (z :: zs) (p :: ps), ← dt_im (D := D) zs ps]
      exact swept_told hsp hz0 p
    have up : ∀ {v : Vec D.F}, Sp (zs.map (im D)) v → Sp ((z :: zs).map (im D)) v := fun h => h.mono fun y hy => List.mem_cons_of_mem _ hy
    have hx : Sp ((z :: zs).map (im D)) (vec x) := by
      have g := up hsp
      have g0 : Sp ((z :: zs).map (im D)) (im D z) := .gen (List.mem_cons_self ..)
      exact ((g0.lin (-1) g).mul (D.ofI d)⁻¹).cast fun j => by
        generalize D.ofI d = A at *
        generalize im D z j = B at *
        grind
    have hs : Sp ((z :: zs).map (im D)) (vec (scl x p)) := (hx.mul (vec x p)⁻¹).cast fun j => (scl_vec j).symm
    refine ⟨z :: zs, p :: ps, a + b, ⟨a, b, fun j => (d2 j).1, h1, Nat.le_refl _⟩, by omega, ?_, by show ps.length + 1 = zs.length + 1; omega, by show zs.length + 1 + n ≤ k; omega, List.nodup_cons.mpr ⟨fun hm => hne (hz0 p hm), h6⟩, fun q => ?_, fun y hy => ?_⟩
    · rw [e1]
      generalize D.ofI (dt zs ps) = A at *
      generalize D.ofI d = B at *
      grind
    · constructor
      · intro hq
        rcases List.mem_cons.mp hq with rfl | hq
        · exact ⟨_, List.mem_append_right _ (List.mem_cons_self ..), rfl⟩
        · obtain ⟨y, hy, e⟩ := (h7 q).mp hq
          exact ⟨_, List.mem_append_left _ (List.mem_map_of_mem hy), e⟩
      · rintro ⟨y, hy, rfl⟩
        rcases List.mem_append.mp hy with hy | hy
        · obtain ⟨u, hu, rfl⟩ := List.mem_map.mp hy
          exact List.mem_cons_of_mem _ ((h7 u.1).mpr ⟨u, hu, rfl⟩)
        · rw [List.mem_singleton.mp hy]
          exact List.mem_cons_self ..
    · rcases List.mem_append.mp hy with hy | hy
      · obtain ⟨u, hu, rfl⟩ := List.mem_map.mp hy
        have lu := h.ok.len u hu
        exact ((up (h8 u hu)).lin (-(vec u.2 p)) hs).cast fun j => (swp_vec (by rw [scl_len]; omega) j).symm
      · rw [List.mem_singleton.mp hy]
        exact hs
end
end Lin
/-! Sums of products: how high they stand; a row with one number more. -/
namespace Lin
open Lean.Grind St
def dotN {F : Type} [Lean.Grind.Field F] [DecidableEq F] (l c : List F) : Nat → F
  | 0 => 0
  | k + 1 => dotN l c k + vec l k * vec c k
section
variable {f : Int} {D : Fd f}
theorem vec_snoc {F : Type} [Field F] [DecidableEq F] {l : List F} {x : F} (j : Nat) : vec (l ++ [x]) j = if j < l.length then vec l j else if j = l.length then x else 0 := by
  by_cases h : j < l.length
  · rw [if_pos h]
    have e : (l ++ [x])[j]? = l[j]? := List.getElem?_append_left h
    rw [vec_lt h, vec_lt (by rw [List.length_append]; omega)] at e
    exact Option.some.inj e
  · rw [if_neg h]
    by_cases h2 : j = l.length
    · rw [if_pos h2]
      have e : (l ++ [x])[j]? = some x := by rw [h2]; simp
      rw [vec_lt (by rw [List.length_append]; show j < l.length + 1; omega)] at e
      exact Option.some.inj e
    · rw [if_neg h2]
      exact vec_ge (by rw [List.length_append]; show l.length + 1 ≤ j; omega)
theorem ext_ht {l : List D.F} {x : D.F} {d e t : Int} {z : Nat → Int} {h k : Nat} (hd : letI := D.fld; D.ofI d ≠ 0) (he : letI := D.fld; D.ofI e ≠ 0) (bd : d.natAbs < 2 ^ h) (be : e.natAbs < 2 ^ k) (hz : letI := D.fld; ∀ j, (z j).natAbs < 2 ^ h ∧ vec l j = D.ofI (z j) * (D.ofI d)⁻¹)
    (bt : t.natAbs < 2 ^ (h + k)) (hx : letI := D.fld; x = D.ofI t * (D.ofI (d * e))⁻¹) : letI := D.fld; Ht D (h + k) (vec (l ++ [x])) := by
  letI := D.fld
  letI := D.dec
  refine ⟨d * e, fun j => if j < l.length then z j * e else if j = l.length then t else 0, ?_, ?_, fun j => ?_⟩
  · rw [D.ofI_mul]
    generalize D.ofI d = A at *
    generalize D.ofI e = B at *
    grind
  · rw [Int.natAbs_mul]
    exact two_pow bd be
  · rw [vec_snoc]
    dsimp only
    by_cases h1 : j < l.length
    · rw [if_pos h1, if_pos h1]
      refine ⟨?_, ?_⟩
      · rw [Int.natAbs_mul]
        exact two_pow (hz j).1 be
      · rw [(hz j).2, D.ofI_mul, D.ofI_mul]
        generalize D.ofI d = A at *
        generalize D.ofI e = B at *
        generalize D.ofI (z j) = C at *
        grind
    · rw [if_neg h1, if_neg h1]
      by_cases h2 : j = l.length
      · rw [if_pos h2, if_pos h2]
        exact ⟨bt, hx⟩
      · rw [if_neg h2, if_neg h2]
        refine ⟨Nat.two_pow_pos _, ?_⟩
        rw [ofI_zero]
        grind
/-- .. by a single number -/
theorem ext_one (hf : IsF f) {l : List D.F} {x : D.F} {h k : Nat} (hl : letI := D.fld; Ht D h (vec l)) (hx : Sz D k x) : letI := D.fld; Ht D (h + k) (vec (l ++ [x])) := by
  letI := D.fld
  letI := D.dec
  obtain ⟨d, z, d0, d1, d2⟩ := hl
  obtain ⟨b0, e⟩ := num_div (D := D) hf x
  refine ext_ht (t := (D.enc x).1 * d) (e := (D.enc x).2) d0 b0 d1 hx.2 d2 ?_ ?_
  · rw [Int.natAbs_mul, Nat.add_comm]
    exact two_pow hx.1 d1
  · rw [D.ofI_mul, D.ofI_mul]
    generalize D.ofI d = A at *
    generalize D.ofI (D.enc x).2 = B at *
    generalize D.ofI (D.enc x).1 = C at *
    grind
def sumI (z y : Nat → Int) : Nat → Int
  | 0 => 0
  | k + 1 => sumI z y k + z k * y k
theorem sumI_le {z y : Nat → Int} {h g : Nat} (hz : ∀ j, (z j).natAbs < 2 ^ h) (hy : ∀ j, (y j).natAbs < 2 ^ g) : ∀ k, (sumI z y k).natAbs ≤ k * 2 ^ (h + g)
  | 0 => by
    show (0 : Int).natAbs ≤ _
    omega
  | k + 1 => by
    have h1 := sumI_le hz hy k
    have h2 : (z k * y k).natAbs < 2 ^ (h + g) := by
      rw [Int.natAbs_mul]
      exact two_pow (hz k) (hy k)
    show (sumI z y k + z k * y k).natAbs ≤ (k + 1) * 2 ^ (h + g)
    rw [Nat.succ_mul]
    omega
theorem dot_sum {l c : List D.F} {d e : Int} {z y : Nat → Int} (hd : letI := D.fld; D.ofI d ≠ 0) (he : letI := D.fld; D.ofI e ≠ 0) (hz : letI := D.fld; ∀ j, vec l j = D.ofI (z j) * (D.ofI d)⁻¹) (hy : letI := D.fld; ∀ j, vec c j = D.ofI (y j) * (D.ofI e)⁻¹) :
    ∀ k, letI := D.fld; letI := D.dec; dotN l c k = D.ofI (sumI z y k) * (D.ofI (d * e))⁻¹
  | 0 => by
    letI := D.fld
    letI := D.dec
    show (0 : D.F) = D.ofI 0 * _
    rw [ofI_zero]
    grind
  | k + 1 => by
    letI := D.fld
    letI := D.dec
    show dotN l c k + vec l k * vec c k = D.ofI (sumI z y k + z k * y k) * _
    rw [dot_sum hd he hz hy k, hz k, hy k, D.ofI_add, D.ofI_mul (z k), D.ofI_mul d]
    generalize D.ofI d = A at *
    generalize D.ofI e = B at *
    generalize D.ofI (z k) = C at *
    generalize D.ofI (y k) = E at *
    generalize D.ofI (sumI z y k) = G at *
    grind
/-- a row of at most seven numbers with a column: all partial sums, and the row with its sum -/
theorem dot_ht {l c : List D.F} {h g : Nat} (hl : letI := D.fld; Ht D h (vec l)) (hc : letI := D.fld; Ht D g (vec c)) (k : Nat) (hk : k ≤ 7) :
    letI := D.fld; letI := D.dec; Ht D (h + (g + 3)) (vec (l ++ [dotN l c k])) ∧ Ht D (h + (g + 3)) (fun _ => dotN l c k) := by
  letI := D.fld
  letI := D.dec
  obtain ⟨d, z, d0, d1, d2⟩ := hl
  obtain ⟨e, y, e0, e1, e2⟩ := hc
  have hs := dot_sum d0 e0 (fun j => (d2 j).2) (fun j => (e2 j).2) k
  have hb : (sumI z y k).natAbs < 2 ^ (h + (g + 3)) := by
    have h1 := sumI_le (fun j => (d2 j).1) (fun j => (e2 j).1) k
    have h2 : k * 2 ^ (h + g) ≤ 7 * 2 ^ (h + g) := Nat.mul_le_mul_right _ hk
    have h3 : 2 ^ (h + (g + 3)) = 2 ^ (h + g) * 8 := by rw [← Nat.add_assoc, Nat.pow_add]
    have h4 : 0 < 2 ^ (h + g) := Nat.two_pow_pos _
    omega
  have be : e.natAbs < 2 ^ (g + 3) := Nat.lt_of_lt_of_le e1 (Nat.pow_le_pow_right (by decide) (by omega))
  refine ⟨ext_ht d0 e0 d1 be d2 hb hs, d * e, fun _ => sumI z y k, ?_, ?_, fun j => ⟨hb, hs⟩⟩
  · rw [D.ofI_mul]
    generalize D.ofI d = A at *
    generalize D.ofI e = B at *
    grind
  · rw [Int.natAbs_mul]
    exact two_pow d1 be
end
end Lin
/-! The column of a place without a lead. -/
namespace Lin
open Lean.Grind St
def spotsL {F : Type} (w : Nat) (A : List (Ll F)) : List Nat := (List.range w).filter fun p => !(A.any fun d => d.1 == p)
section
variable {F : Type} [Field F] [DecidableEq F]
def nullF (p : Nat) (A : List (Ll F)) (c : List F) : List F := A.foldl (fun c d => c.set d.1 (-(vec d.2 p))) c
def nullL (w p : Nat) (A : List (Ll F)) : List F := nullF p A ((List.replicate w 0).set p 1)
theorem nullF_len {p : Nat} : ∀ (A : List (Ll F)) (c : List F), (nullF p A c).length = c.length
  | [], c => rfl
  | d :: A, c => by
    show (nullF p A (c.set d.1 (-(vec d.2 p)))).length = _
    rw [nullF_len A, List.length_set]
theorem vec_set {c : List F} {i j : Nat} {x : F} (h : i < c.length) : vec (c.set i x) j = if i = j then x else vec c j := by
  by_cases e : i = j
  · subst e
    rw [if_pos rfl]
    have h1 : (c.set i x)[i]? = some x := List.getElem?_set_self h
    rw [vec_lt (by rw [List.length_set]; exact h)] at h1
    exact Option.some.inj h1
  · rw [if_neg e]
    rcases Nat.lt_or_ge j c.length with hj | hj
    · have h1 : (c.set i x)[j]? = c[j]? := List.getElem?_set_ne e
      rw [vec_lt (by rw [List.length_set]; exact hj), vec_lt hj] at h1
      exact Option.some.inj h1
    · rw [vec_ge (by rw [List.length_set]; exact hj), vec_ge hj]
theorem nullF_other {p : Nat} : ∀ {A : List (Ll F)} {c : List F} {j : Nat}, (∀ d ∈ A, d.1 < c.length) → (∀ d ∈ A, d.1 ≠ j) → vec (nullF p A c) j = vec c j
  | [], _, _, _, _ => rfl
  | d :: A, c, j, h, hj => by
    have h0 := h d (List.mem_cons_self ..)
    show vec (nullF p A (c.set d.1 (-(vec d.2 p)))) j = _
    rw [nullF_other (A := A) (fun e he => by rw [List.length_set]; exact h e (List.mem_cons_of_mem _ he)) (fun e he => hj e (List.mem_cons_of_mem _ he)), vec_set h0, if_neg (hj d (List.mem_cons_self ..))]
theorem nullF_lead {p : Nat} : ∀ {A : List (Ll F)} {c : List F} {d : Ll F}, (∀ d ∈ A, d.1 < c.length) → A.Pairwise (fun a b => a.1 ≠ b.1) → d ∈ A → vec (nullF p A c) d.1 = -(vec d.2 p)
  | e :: A, c, d, h, hd, hm => by
    obtain ⟨h1, h2⟩ := List.pairwise_cons.mp hd
    have h0 := h e (List.mem_cons_self ..)
    have hA : ∀ x ∈ A, x.1 < (c.set e.1 (-(vec e.2 p))).length := fun x hx => by rw [List.length_set]; exact h x (List.mem_cons_of_mem _ hx)
    show vec (nullF p A (c.set e.1 (-(vec e.2 p)))) d.1 = _
    rcases List.mem_cons.mp hm with rfl | hm
    · rw [nullF_other hA (fun x hx z => h1 x hx z.symm), vec_set h0, if_pos rfl]
    · exact nullF_lead hA h2 hm
theorem vec_reps {w j : Nat} : vec (List.replicate w (0 : F)) j = 0 := by
  rcases Nat.lt_or_ge j w with h | h
  · have e : (List.replicate w (0 : F))[j]? = some 0 := by simp [h]
    rw [vec_lt (by rw [List.length_replicate]; exact h)] at e
    exact Option.some.inj e
  · exact vec_ge (by rw [List.length_replicate]; exact h)
theorem nullL_len {w p : Nat} {A : List (Ll F)} : (nullL w p A).length = w := by
  unfold nullL
  rw [nullF_len, List.length_set, List.length_replicate]
theorem nullL_lead {w p : Nat} {A : List (Ll F)} {d : Ll F} (hA : ∀ d ∈ A, d.1 < w) (hd : A.Pairwise (fun a b => a.1 ≠ b.1)) (hm : d ∈ A) : vec (nullL w p A) d.1 = -(vec d.2 p) :=
  nullF_lead (fun x hx => by rw [List.length_set, List.length_replicate]; exact hA x hx) hd hm
theorem nullL_other {w p j : Nat} {A : List (Ll F)} (hp : p < w) (hA : ∀ d ∈ A, d.1 < w) (hj : ∀ d ∈ A, d.1 ≠ j) : vec (nullL w p A) j = if p = j then 1 else 0 := by
  unfold nullL
  rw [nullF_other (fun x hx => by rw [List.length_set, List.length_replicate]; exact hA x hx) hj, vec_set (by rw [List.length_replicate]; exact hp)]
  by_cases h : p = j
  · rw [if_pos h, if_pos h]
  · rw [if_neg h, if_neg h, vec_reps]
/-- sums over places -/
def sumV (g : Nat → F) : Nat → F
  | 0 => 0
  | k + 1 => sumV g k + g k
theorem dotN_sum (l c : List F) : ∀ k, dotN l c k = sumV (fun j => vec l j * vec c j) k
  | 0 => rfl
  | k + 1 => by
    show dotN l c k + _ = sumV _ k + _
    rw [dotN_sum l c k]
theorem sumV_two {g : Nat → F} {p q : Nat} (ne : p ≠ q) (hz : ∀ j, j ≠ p → j ≠ q → g j = 0) : ∀ k, sumV g k = (if p < k then g p else 0) + (if q < k then g q else 0)
  | 0 => by
    show (0 : F) = _
    rw [if_neg (by omega), if_neg (by omega)]
    grind
  | k + 1 => by
    show sumV g k + g k = _
    rw [sumV_two ne hz k]
    by_cases h1 : k = p
    · subst h1
      rw [if_neg (show ¬ k < k by omega), if_pos (show k < k + 1 by omega)]
      by_cases h2 : q < k
      · rw [if_pos h2, if_pos (show q < k + 1 by omega)]
        grind
      · rw [if_neg h2, if_neg (show ¬ q < k + 1 by omega)]
        grind
    · by_cases h2 : k = q
      · subst h2
        rw [if_neg (show ¬ k < k by omega), if_pos (show k < k + 1 by omega)]
        by_cases h3 : p < k
        · rw [if_pos h3, if_pos (show p < k + 1 by omega)]
          grind
        · rw [if_neg h3, if_neg (show ¬ p < k + 1 by omega)]
          grind
      · rw [hz k h1 h2]
        have e1 : (p < k) = (p < k + 1) := propext ⟨fun h => by omega, fun h => by omega⟩
        have e2 : (q < k) = (q < k + 1) := propext ⟨fun h => by omega, fun h => by omega⟩
        simp only [e1, e2]
        grind
theorem sumV_lin {u r c : Nat → F} {a : F} : ∀ k, sumV (fun j => (u j + a * r j) * c j) k = sumV (fun j => u j * c j) k + a * sumV (fun j => r j * c j) k
  | 0 => by
    show (0 : F) = 0 + a * 0
    grind
  | k + 1 => by
    show sumV _ k + _ = (sumV _ k + _) + a * (sumV _ k + _)
    rw [sumV_lin k]
    grind
theorem sumV_zero {c : Nat → F} : ∀ k, sumV (fun j => (0 : F) * c j) k = 0
  | 0 => rfl
  | k + 1 => by
    show sumV _ k + _ = 0
    rw [sumV_zero k]
    grind
theorem sumV_sp {rs : List (Vec F)} {v c : Vec F} {k : Nat} (h : Sp rs v) (hr : ∀ r ∈ rs, sumV (fun j => r j * c j) k = 0) : sumV (fun j => v j * c j) k = 0 := by
  induction h with
  | zero => exact sumV_zero k
  | step a hm _ ih =>
    rw [sumV_lin k, ih, hr _ hm]
    grind
/-- rows in the span of the reduced ones lead the column to nought -/
theorem null_dot {w p : Nat} {rows : List (List F)} {A : List (Ll F)} (R : RedOf w rows A) (hA : ∀ d ∈ A, d.1 < w) (hp : p < w) (hs : ∀ d ∈ A, d.1 ≠ p) {l : List F} (hl : l ∈ rows) : dotN l (nullL w p A) w = 0 := by
  rw [dotN_sum]
  refine sumV_sp (R.into l hl) fun r hr => ?_
  obtain ⟨x, hx, rfl⟩ := List.mem_map.mp hr
  obtain ⟨d, hd, rfl⟩ := List.mem_map.mp hx
  have dis := R.red.toU.dist
  rw [List.pairwise_map] at dis
  have one : vec d.2 d.1 = 1 := R.red.toU.one (d.1, vec d.2) (List.mem_map_of_mem hd)
  have hdp := hs d hd
  rw [sumV_two (g := fun j => vec d.2 j * vec (nullL w p A) j) (p := p) (q := d.1) (fun e => hdp e.symm) (fun j h1 h2 => ?_) w, if_pos hp, if_pos (hA d hd), nullL_other hp hA hs, if_pos rfl, nullL_lead hA dis hd, one]
  · grind
  · by_cases h : ∃ e ∈ A, e.1 = j
    · obtain ⟨e, he, rfl⟩ := h
      have z : vec d.2 e.1 = 0 := R.red.toU.alone (d.1, vec d.2) (List.mem_map_of_mem hd) (e.1, vec e.2) (List.mem_map_of_mem he) fun z => h2 z.symm
      rw [z]
      grind
    · have z : vec (nullL w p A) j = 0 := by
        rw [nullL_other hp hA (fun e he z => h ⟨e, he, z⟩), if_neg (fun z => h1 z.symm)]
      rw [z]
      grind
end
section
variable {f : Int} {D : Fd f}
/-- how high such a column stands -/
theorem null_ht {w p m : Nat} {A : List (Ll D.F)} (hC : letI := D.fld; HtC D m (rowsOf (vecs A))) (hA : ∀ d ∈ A, d.1 < w) (hd : A.Pairwise (fun a b => a.1 ≠ b.1)) (hp : p < w) (hs : ∀ d ∈ A, d.1 ≠ p) : letI := D.fld; letI := D.dec; Ht D m (vec (nullL w p A)) := by
  letI := D.fld
  letI := D.dec
  obtain ⟨d, d0, d1, d2⟩ := hC
  have hm : ∀ e ∈ A, vec e.2 ∈ rowsOf (vecs A) := fun e he => List.mem_map_of_mem (f := fun x : Lr D.F => x.2) (List.mem_map_of_mem (f := fun a : Ll D.F => (a.1, vec a.2)) he)
  have ex : ∀ j, ∃ z : Int, z.natAbs < 2 ^ m ∧ vec (nullL w p A) j = D.ofI z * (D.ofI d)⁻¹ := fun j => by
    by_cases h : ∃ e ∈ A, e.1 = j
    · obtain ⟨e, he, rfl⟩ := h
      obtain ⟨z, hz⟩ := d2 _ (hm e he)
      refine ⟨-(z p), by rw [Int.natAbs_neg]; exact (hz p).1, ?_⟩
      rw [nullL_lead hA hd he, (hz p).2, ofI_neg]
      generalize D.ofI d = A at *
      generalize D.ofI (z p) = B at *
      grind
    · have hj : ∀ e ∈ A, e.1 ≠ j := fun e he z => h ⟨e, he, z⟩
      rw [nullL_other hp hA hj]
      by_cases e : p = j
      · rw [if_pos e]
        refine ⟨d, d1, ?_⟩
        generalize D.ofI d = A at *
        grind
      · rw [if_neg e]
        refine ⟨0, Nat.two_pow_pos _, ?_⟩
        rw [ofI_zero]
        grind
  exact ⟨d, fun j => (ex j).choose, d0, d1, fun j => (ex j).choose_spec⟩
end
end Lin
/-! All columns that rows lead to nought: sums of the base, and how many. -/
namespace Lin
open Lean.Grind St
section
variable {F : Type} [Field F] [DecidableEq F]
theorem spotsL_succ {A : List (Ll F)} (j : Nat) : spotsL (j + 1) A = if A.any (fun d => d.1 == j) = true then spotsL j A else spotsL j A ++ [j] := by
  unfold spotsL
  rw [List.range_succ, List.filter_append]
  by_cases h : A.any (fun d => d.1 == j) = true
  · rw [if_pos h, List.filter_cons_of_neg (by rw [h]; decide), List.filter_nil, List.append_nil]
  · rw [if_neg h, List.filter_cons_of_pos (by rw [Bool.eq_false_iff.mpr h]; rfl), List.filter_nil]
/-- a sum over a list of places -/
def sumS (g : Nat → F) : List Nat → F
  | [] => 0
  | s :: l => g s + sumS g l
theorem sumS_app (g : Nat → F) : ∀ (l m : List Nat), sumS g (l ++ m) = sumS g l + sumS g m
  | [], m => by
    show sumS g m = 0 + sumS g m
    grind
  | s :: l, m => by
    show g s + sumS g (l ++ m) = g s + sumS g l + sumS g m
    rw [sumS_app g l m]
    grind
theorem any_lead {A : List (Ll F)} {j : Nat} : A.any (fun d => d.1 == j) = true ↔ ∃ d ∈ A, d.1 = j := by
  rw [List.any_eq_true]
  constructor
  · rintro ⟨d, hd, e⟩
    exact ⟨d, hd, by simpa using e⟩
  · rintro ⟨d, hd, e⟩
    exact ⟨d, hd, by simpa using e⟩
/-- over all places: over the spots, and the one lead at which it isn't nought -/
theorem sum_spots {A : List (Ll F)} {g : Nat → F} {q : Nat} (hq : ∃ d ∈ A, d.1 = q) (hz : ∀ d ∈ A, d.1 ≠ q → g d.1 = 0) : ∀ k, sumV g k = sumS g (spotsL k A) + (if q < k then g q else 0)
  | 0 => by
    show (0 : F) = 0 + _
    rw [if_neg (by omega)]
    grind
  | k + 1 => by
    show sumV g k + g k = _
    rw [sum_spots hq hz k, spotsL_succ]
    by_cases h : A.any (fun d => d.1 == k) = true
    · rw [if_pos h]
      by_cases e : k = q
      · subst e
        rw [if_neg (show ¬ k < k by omega), if_pos (show k < k + 1 by omega)]
        grind
      · obtain ⟨d, hd, ed⟩ := any_lead.mp h
        have z : g k = 0 := by
          have := hz d hd (fun z => e (ed.symm.trans z))
          rw [ed] at this
          exact this
        rw [z]
        by_cases h2 : q < k
        · rw [if_pos h2, if_pos (show q < k + 1 by omega)]
          grind
        · rw [if_neg h2, if_neg (show ¬ q < k + 1 by omega)]
          grind
    · rw [if_neg h, sumS_app]
      have e : k ≠ q := fun e => h (any_lead.mpr (by rw [e]; exact hq))
      show _ = sumS g (spotsL k A) + (g k + 0) + _
      by_cases h2 : q < k
      · rw [if_pos h2, if_pos (show q < k + 1 by omega)]
        grind
      · rw [if_neg h2, if_neg (show ¬ q < k + 1 by omega)]
        grind
theorem sumS_zero {g : Nat → F} : ∀ {l : List Nat}, (∀ s ∈ l, g s = 0) → sumS g l = 0
  | [], _ => rfl
  | s :: l, h => by
    show g s + sumS g l = 0
    rw [h s (List.mem_cons_self ..), sumS_zero fun t ht => h t (List.mem_cons_of_mem _ ht)]
    grind
theorem sumS_one {g : Nat → F} {j : Nat} : ∀ {l : List Nat}, l.Nodup → j ∈ l → (∀ s ∈ l, s ≠ j → g s = 0) → sumS g l = g j
  | s :: l, nd, hj, h => by
    obtain ⟨n1, n2⟩ := List.nodup_cons.mp nd
    show g s + sumS g l = g j
    rcases List.mem_cons.mp hj with rfl | hj
    · rw [sumS_zero fun t ht => h t (List.mem_cons_of_mem _ ht) fun z => n1 (by rw [← z]; exact ht)]
      grind
    · rw [h s (List.mem_cons_self ..) (fun z => n1 (by rw [z]; exact hj)), sumS_one n2 hj fun t ht => h t (List.mem_cons_of_mem _ ht)]
      grind
/-- the sum of the base by a column's numbers at the spots, number by number -/
def combV (w : Nat) (A : List (Ll F)) (c : Nat → F) (l : List Nat) (j : Nat) : F := sumS (fun s => vec (nullL w s A) j * c s) l
theorem spots_nodup {w : Nat} {A : List (Ll F)} : (spotsL w A).Nodup := List.Nodup.sublist List.filter_sublist List.nodup_range
theorem spots_at {w p : Nat} {A : List (Ll F)} : p ∈ spotsL w A ↔ p < w ∧ ∀ d ∈ A, d.1 ≠ p := by
  unfold spotsL
  rw [List.mem_filter, List.mem_range, Bool.not_eq_true', Bool.eq_false_iff]
  refine ⟨fun h => ⟨h.1, fun d hd e => h.2 (any_lead.mpr ⟨d, hd, e⟩)⟩, fun h => ⟨h.1, fun z => ?_⟩⟩
  obtain ⟨d, hd, e⟩ := any_lead.mp z
  exact h.2 d hd e
section
variable {w : Nat} {rows : List (List F)} {A : List (Ll F)} (R : RedOf w rows A) (hA : ∀ d ∈ A, d.1 < w)
include R hA
theorem dis_of : A.Pairwise (fun a b => a.1 ≠ b.1) := by
  have dis := R.red.toU.dist
  rw [List.pairwise_map] at dis
  exact dis
/-- what the reduced rows lead to nought is such a sum -/
theorem ker_comb {c : Nat → F} (h : ∀ d ∈ A, sumV (fun j => vec d.2 j * c j) w = 0) {j : Nat} (hj : j < w) : combV w A c (spotsL w A) j = c j := by
  unfold combV
  by_cases hl : ∃ d ∈ A, d.1 = j
  · obtain ⟨d, hd, rfl⟩ := hl
    have h1 := h d hd
    have one : vec d.2 d.1 = 1 := R.red.toU.one (d.1, vec d.2) (List.mem_map_of_mem hd)
    rw [sum_spots (A := A) (q := d.1) ⟨d, hd, rfl⟩ (fun e he ne => by
      have z : vec d.2 e.1 = 0 := R.red.toU.alone (d.1, vec d.2) (List.mem_map_of_mem hd) (e.1, vec e.2) (List.mem_map_of_mem he) ne.symm
      show vec d.2 e.1 * c e.1 = 0
      rw [z]
      grind) w, if_pos (hA d hd), one] at h1
    have e : ∀ l : List Nat, sumS (fun s => vec (nullL w s A) d.1 * c s) l = -(sumS (fun s => vec d.2 s * c s) l) := fun l => by
      induction l with
      | nil =>
        show (0 : F) = -0
        grind
      | cons s l ih =>
        show vec (nullL w s A) d.1 * c s + _ = -(vec d.2 s * c s + _)
        rw [ih, nullL_lead hA (dis_of R hA) hd]
        grind
    rw [e]
    generalize sumS (fun s => vec d.2 s * c s) (spotsL w A) = X at *
    grind
  · have hs : j ∈ spotsL w A := spots_at.mpr ⟨hj, fun d hd e => hl ⟨d, hd, e⟩⟩
    rw [sumS_one spots_nodup hs fun s hs ne => ?_]
    · rw [nullL_other hj hA (spots_at.mp hs).2, if_pos rfl]
      grind
    · rw [nullL_other (spots_at.mp hs).1 hA (fun d hd e => hl ⟨d, hd, e⟩), if_neg ne]
      grind
/-- such a sum is led to nought -/
theorem comb_ker {c : Nat → F} (h : ∀ j, j < w → combV w A c (spotsL w A) j = c j) {l : List F} (hl : l ∈ rows) : sumV (fun j => vec l j * c j) w = 0 := by
  have key : ∀ m : List Nat, (∀ s ∈ m, s < w ∧ ∀ d ∈ A, d.1 ≠ s) → sumV (fun j => vec l j * combV w A c m j) w = 0 := fun m => by
    induction m with
    | nil =>
      intro _
      have e : (fun j => vec l j * combV w A c [] j) = fun j => (0 : F) * vec l j := funext fun j => by
        show vec l j * 0 = 0 * vec l j
        grind
      rw [e, sumV_zero]
    | cons s m ih =>
      intro hm
      have e : (fun j => vec l j * combV w A c (s :: m) j) = fun j => (combV w A c m j + c s * vec (nullL w s A) j) * vec l j := funext fun j => by
        show vec l j * (vec (nullL w s A) j * c s + combV w A c m j) = _
        grind
      have e1 : (fun j => combV w A c m j * vec l j) = fun j => vec l j * combV w A c m j := funext fun j => by grind
      have e2 : (fun j => vec (nullL w s A) j * vec l j) = fun j => vec l j * vec (nullL w s A) j := funext fun j => by grind
      have hs := hm s (List.mem_cons_self ..)
      rw [e, sumV_lin, e1, e2, ih fun t ht => hm t (List.mem_cons_of_mem _ ht), ← dotN_sum, null_dot R hA hs.1 hs.2 hl]
      grind
  have h2 := key (spotsL w A) fun s hs => spots_at.mp hs
  have cong : ∀ k, k ≤ w → sumV (fun j => vec l j * c j) k = sumV (fun j => vec l j * combV w A c (spotsL w A) j) k := fun k => by
    induction k with
    | zero => exact fun _ => rfl
    | succ k ih =>
      intro hk
      show sumV _ k + vec l k * c k = sumV _ k + vec l k * combV w A c (spotsL w A) k
      rw [ih (by omega), h k (by omega)]
  rw [cong w (Nat.le_refl w)]
  exact h2
/-- rows and reduced rows lead the same to nought -/
theorem ker_rows {c : Nat → F} : (∀ l ∈ rows, sumV (fun j => vec l j * c j) w = 0) ↔ ∀ d ∈ A, sumV (fun j => vec d.2 j * c j) w = 0 := by
  constructor
  · intro h d hd
    refine sumV_sp (R.of d hd) fun r hr => ?_
    obtain ⟨l, hl, rfl⟩ := List.mem_map.mp hr
    exact h l hl
  · intro h l hl
    refine sumV_sp (R.into l hl) fun r hr => ?_
    obtain ⟨x, hx, rfl⟩ := List.mem_map.mp hr
    obtain ⟨d, hd, rfl⟩ := List.mem_map.mp hx
    exact h d hd
end
/-! ### how many -/
def allC (E : List F) : Nat → List (List F)
  | 0 => [[]]
  | k + 1 => (allC E k).flatMap fun r => E.map fun x => r ++ [x]
theorem allC_len {E : List F} : ∀ {k : Nat} {r : List F}, r ∈ allC E k → r.length = k
  | 0, r, h => by
    rw [List.mem_singleton.mp h]
    rfl
  | k + 1, r, h => by
    obtain ⟨s, hs, h⟩ := List.mem_flatMap.mp h
    obtain ⟨x, _, rfl⟩ := List.mem_map.mp h
    rw [List.length_append, allC_len hs]
    rfl
def sumN : List Nat → Nat
  | [] => 0
  | x :: l => x + sumN l
theorem sumN_add {α : Type} (f g : α → Nat) : ∀ l : List α, sumN (l.map fun x => f x + g x) = sumN (l.map f) + sumN (l.map g)
  | [] => rfl
  | x :: l => by
    show f x + g x + sumN _ = (f x + sumN _) + (g x + sumN _)
    rw [sumN_add f g l]
    omega
theorem sumN_zero {α : Type} : ∀ l : List α, sumN (l.map fun _ => 0) = 0
  | [] => rfl
  | x :: l => by
    show 0 + sumN _ = 0
    rw [sumN_zero l]
theorem count_one {α : Type} (P : α → Bool) : ∀ l : List α, l.countP P = sumN (l.map fun x => if P x then 1 else 0)
  | [] => rfl
  | x :: l => by
    rw [List.countP_cons, count_one P l]
    show _ = (if P x then 1 else 0) + sumN _
    omega
theorem count_flat {E : List F} (P : List F → Bool) : ∀ L : List (List F), (L.flatMap fun r => E.map fun x => r ++ [x]).countP P = sumN (E.map fun x => L.countP fun r => P (r ++ [x]))
  | [] => (sumN_zero E).symm
  | r :: L => by
    rw [List.flatMap_cons, List.countP_append, count_flat P L, List.countP_map, count_one, ← sumN_add]
    congr 1
    refine List.map_congr_left fun x _ => ?_
    rw [List.countP_cons]
    show (if P (r ++ [x]) then 1 else 0) + _ = _
    omega
theorem sumN_const {α : Type} {n : Nat} : ∀ {l : List α} {f : α → Nat}, (∀ x ∈ l, f x = n) → sumN (l.map f) = l.length * n
  | [], _, _ => (Nat.zero_mul n).symm
  | x :: l, f, h => by
    show f x + sumN (l.map f) = (l.length + 1) * n
    rw [h x (List.mem_cons_self ..), sumN_const fun y hy => h y (List.mem_cons_of_mem _ hy), Nat.succ_mul]
    omega
theorem sumN_single {α : Type} {n : Nat} {a : α} : ∀ {l : List α} {f : α → Nat}, l.Nodup → a ∈ l → f a = n → (∀ x ∈ l, x ≠ a → f x = 0) → sumN (l.map f) = n
  | x :: l, f, nd, ha, h1, h0 => by
    obtain ⟨n1, n2⟩ := List.nodup_cons.mp nd
    show f x + sumN (l.map f) = n
    rcases List.mem_cons.mp ha with rfl | ha
    · rw [h1, sumN_const (n := 0) fun y hy => h0 y (List.mem_cons_of_mem _ hy) fun z => n1 (by rw [← z]; exact hy)]
      omega
    · rw [h0 x (List.mem_cons_self ..) (fun z => n1 (by rw [z]; exact ha)), sumN_single n2 ha h1 fun y hy => h0 y (List.mem_cons_of_mem _ hy)]
      omega
theorem sumV_bump {u v : Nat → F} {k : Nat} (h : ∀ j, j ≠ k → u j = v j) : ∀ w, sumV u w = sumV v w + (if k < w then u k + (-1) * v k else 0)
  | 0 => by
    show (0 : F) = 0 + _
    rw [if_neg (by omega)]
    grind
  | w + 1 => by
    show sumV u w + u w = sumV v w + v w + _
    rw [sumV_bump h w]
    by_cases e : w = k
    · subst e
      rw [if_neg (show ¬ w < w by omega), if_pos (show w < w + 1 by omega)]
      grind
    · rw [h w e]
      by_cases h2 : k < w
      · rw [if_pos h2, if_pos (show k < w + 1 by omega)]
        grind
      · rw [if_neg h2, if_neg (show ¬ k < w + 1 by omega)]
        grind
theorem sumV_cong {u v : Nat → F} (h : ∀ j, u j = v j) (w : Nat) : sumV u w = sumV v w := by
  have e : u = v := funext h
  rw [e]
theorem vec_app {l m : List F} (j : Nat) : vec (l ++ m) j = if j < l.length then vec l j else vec m (j - l.length) := by
  by_cases h : j < l.length
  · rw [if_pos h]
    have e : (l ++ m)[j]? = l[j]? := List.getElem?_append_left h
    rw [vec_lt h, vec_lt (by rw [List.length_append]; omega)] at e
    exact Option.some.inj e
  · rw [if_neg h]
    have e : (l ++ m)[j]? = m[j - l.length]? := List.getElem?_append_right (by omega)
    rcases Nat.lt_or_ge (j - l.length) m.length with h2 | h2
    · rw [vec_lt h2, vec_lt (by rw [List.length_append]; omega)] at e
      exact Option.some.inj e
    · rw [vec_ge h2, vec_ge (by rw [List.length_append]; omega)]
def goodB (w : Nat) (A : List (Ll F)) (c : List F) : Bool := decide (∀ d ∈ A, sumV (fun j => vec d.2 j * vec c j) w = 0)
def Gk (w : Nat) (A : List (Ll F)) (k : Nat) (c : List F) : Prop := ∀ d ∈ A, k ≤ d.1 → sumV (fun j => vec d.2 j * vec c j) w = 0
section
variable {w : Nat} {rows : List (List F)} {A : List (Ll F)} (R : RedOf w rows A) (hA : ∀ d ∈ A, d.1 < w)
include R
/-- only what stands from the lead on matters -/
theorem dot_tail {d : Ll F} (hd : d ∈ A) {u v : List F} (h : ∀ j, d.1 ≤ j → vec u j = vec v j) : sumV (fun j => vec d.2 j * vec u j) w = sumV (fun j => vec d.2 j * vec v j) w := sumV_cong (fun j => by
  rcases Nat.lt_or_ge j d.1 with hj | hj
  · have z : vec d.2 j = 0 := R.red.toU.ahead (d.1, vec d.2) (List.mem_map_of_mem hd) j hj
    rw [z]
    grind
  · rw [h j hj]) w
theorem app_tail {r r' suf : List F} {k : Nat} (h1 : r.length = k) (h2 : r'.length = k) (j : Nat) (hj : k ≤ j) : vec (r ++ suf) j = vec (r' ++ suf) j := by
  rw [vec_app, vec_app, if_neg (by omega), if_neg (by omega), h1, h2]
theorem cons_tail {k : Nat} {x : F} {suf : List F} (j : Nat) (hj : k + 1 ≤ j) : vec (List.replicate k 0 ++ x :: suf) j = vec (List.replicate (k + 1) 0 ++ suf) j := by
  rw [vec_app, vec_app, if_neg (by rw [List.length_replicate]; omega), if_neg (by rw [List.length_replicate]; omega), List.length_replicate, List.length_replicate]
  have e : j - k = (j - (k + 1)) + 1 := by omega
  rw [e]
  rfl
include hA
theorem count_ker {E : List F} (nd : E.Nodup) (all : ∀ x, x ∈ E) : ∀ (k : Nat) (suf : List F), k ≤ w →
    (Gk w A k (List.replicate k 0 ++ suf) → (allC E k).countP (fun r => goodB w A (r ++ suf)) = E.length ^ (spotsL k A).length) ∧ (¬ Gk w A k (List.replicate k 0 ++ suf) → (allC E k).countP (fun r => goodB w A (r ++ suf)) = 0)
  | 0, suf, _ => by
    have e : goodB w A suf = true ↔ Gk w A 0 suf := by
      unfold goodB
      rw [decide_eq_true_eq]
      exact ⟨fun h d hd _ => h d hd, fun h d hd => h d hd (Nat.zero_le _)⟩
    have c : (allC E 0).countP (fun r => goodB w A (r ++ suf)) = if goodB w A suf = true then 1 else 0 := by
      show ([[]] : List (List F)).countP _ = _
      rw [List.countP_cons]
      show 0 + (if goodB w A ([] ++ suf) = true then 1 else 0) = _
      rw [List.nil_append, Nat.zero_add]
    rw [c]
    refine ⟨fun h => ?_, fun h => ?_⟩
    · rw [if_pos (e.mpr h)]
      rfl
    · exact if_neg fun z => h (e.mp z)
  | k + 1, suf, hk => by
    have hc : (allC E (k + 1)).countP (fun r => goodB w A (r ++ suf)) = sumN (E.map fun x => (allC E k).countP fun r => goodB w A (r ++ x :: suf)) := by
      show ((allC E k).flatMap fun r => E.map fun x => r ++ [x]).countP _ = _
      rw [count_flat]
      congr 1
      refine List.map_congr_left fun x _ => ?_
      congr 1
      funext r
      rw [List.append_assoc]
      rfl
    have down : ∀ x, Gk w A k (List.replicate k 0 ++ x :: suf) → Gk w A (k + 1) (List.replicate (k + 1) 0 ++ suf) := fun x h d hd hl => by
      rw [← dot_tail R hd (u := List.replicate k 0 ++ x :: suf) fun j hj => cons_tail R j (by omega)]
      exact h d hd (by omega)
    rw [hc]
    refine ⟨fun h => ?_, fun h => ?_⟩
    · rw [spotsL_succ]
      by_cases hl : A.any (fun d => d.1 == k) = true
      · rw [if_pos hl]
        obtain ⟨d, hd, ed⟩ := any_lead.mp hl
        have one : vec d.2 d.1 = 1 := R.red.toU.one (d.1, vec d.2) (List.mem_map_of_mem hd)
        rw [ed] at one
        have bump : ∀ x, sumV (fun j => vec d.2 j * vec (List.replicate k 0 ++ x :: suf) j) w = sumV (fun j => vec d.2 j * vec (List.replicate (k + 1) 0 ++ suf) j) w + x := fun x => by
          rw [sumV_bump (u := fun j => vec d.2 j * vec (List.replicate k 0 ++ x :: suf) j) (v := fun j => vec d.2 j * vec (List.replicate (k + 1) 0 ++ suf) j) (k := k) (fun j ne => ?_) w, if_pos (show k < w by omega), one]
          · have e1 : vec (List.replicate k 0 ++ x :: suf) k = x := by
              rw [vec_app, if_neg (by rw [List.length_replicate]; omega), List.length_replicate, Nat.sub_self]
              rfl
            have e2 : vec (List.replicate (k + 1) 0 ++ suf) k = 0 := by
              rw [vec_app, if_pos (by rw [List.length_replicate]; omega), vec_reps]
            rw [e1, e2]
            grind
          · rcases Nat.lt_or_ge j k with hj | hj
            · have z : vec d.2 j = 0 := R.red.toU.ahead (d.1, vec d.2) (List.mem_map_of_mem hd) j (by show j < d.1; omega)
              show vec d.2 j * _ = vec d.2 j * _
              rw [z]
              grind
            · show vec d.2 j * vec _ j = vec d.2 j * vec _ j
              rw [cons_tail R j (by omega)]
        have iffG : ∀ x, Gk w A k (List.replicate k 0 ++ x :: suf) ↔ x = -(sumV (fun j => vec d.2 j * vec (List.replicate (k + 1) 0 ++ suf) j) w) := fun x => by
          have b := bump x
          constructor
          · intro g
            have g1 := g d hd (by omega)
            rw [b] at g1
            generalize sumV (fun j => vec d.2 j * vec (List.replicate (k + 1) 0 ++ suf) j) w = X at *
            grind
          · intro ex e he hle
            by_cases ee : e.1 = k
            · have same : e = d := by
                have := List.Pairwise.forall_of_forall_of_flip (l := A) (R := fun a b => a.1 = b.1 → a = b) (fun x _ _ => rfl) ?_ ?_
                · exact this he hd (ee.trans ed.symm)
                · exact (dis_of R hA).imp fun h z => absurd z h
                · exact (dis_of R hA).imp fun h z => absurd z.symm h
              rw [same, b, ex]
              grind
            · rw [dot_tail R he (v := List.replicate (k + 1) 0 ++ suf) fun j hj => cons_tail R j (by omega)]
              exact h e he (by omega)
        refine sumN_single (a := -(sumV (fun j => vec d.2 j * vec (List.replicate (k + 1) 0 ++ suf) j) w)) nd (all _) ?_ fun x _ ne => ?_
        · exact (count_ker nd all k _ (by omega)).1 ((iffG _).mpr rfl)
        · exact (count_ker nd all k _ (by omega)).2 fun g => ne ((iffG x).mp g)
      · rw [if_neg hl, List.length_append]
        have same : ∀ x, Gk w A k (List.replicate k 0 ++ x :: suf) := fun x e he hle => by
          have ne : e.1 ≠ k := fun z => hl (any_lead.mpr ⟨e, he, z⟩)
          rw [dot_tail R he (v := List.replicate (k + 1) 0 ++ suf) fun j hj => cons_tail R j (by omega)]
          exact h e he (by omega)
        rw [sumN_const (n := E.length ^ (spotsL k A).length) fun x _ => (count_ker nd all k _ (by omega)).1 (same x)]
        show _ = E.length ^ ((spotsL k A).length + 1)
        rw [Nat.pow_succ, Nat.mul_comm]
    · rw [sumN_const (n := 0) fun x _ => (count_ker nd all k _ (by omega)).2 fun g => h (down x g)]
      exact Nat.mul_zero _
theorem count_all {E : List F} (nd : E.Nodup) (all : ∀ x, x ∈ E) : (allC E w).countP (goodB w A) = E.length ^ (spotsL w A).length := by
  have h := (count_ker R hA nd all w [] (Nat.le_refl w)).1 fun d hd hl => by
    have := hA d hd
    omega
  have e : (fun r => goodB w A (r ++ [])) = goodB w A := funext fun r => by rw [List.append_nil]
  rw [e] at h
  exact h
end
end
end Lin
/-! zip of two things, each a list or a tuple, in any mix. -/
namespace ZM
open PySem PySem.Spec PyProof.Rows L2
def Sq (t : Bool) (K : PySem.W.Frag) (H : Hp) (a : Addr) (xs : List V) : Prop := match t with | true => SqT K H a xs | false => SqL K H a xs
def At (t : Bool) (h : Heap) (it l : Addr) (i : Nat) : Prop := match t with | true => h.IsTupleIter it l i | false => h.IsListIter it l i
def Stands (t : Bool) (h : Heap) (l : Addr) (items : Array Value) : Prop := match t with | true => h.IsTuple l items | false => h.IsList l items
def itObj (t : Bool) (l : Addr) : Obj := match t with | true => { cls := .type "tuple_iterator", data := .fields #[.ref l, .int 0 0] } | false => { cls := .type "list_iterator", data := .fields #[.ref l, .int 0 0] }
theorem draws {P : Program} {w : World} {A : Around} (t : Bool) (hh : A.handled = none) (it l : Addr) (ne : l ≠ it) (items : Array Value) : Draws P w A it [it, l] items.size (fun i v => items[i]? = some v) (fun i h => At t h it l i ∧ Stands t h l items) := by
  cases t with
  | true => exact Draws.tuple hh it l ne items
  | false => exact Draws.list hh it l ne items
theorem begins (t : Bool) (l : Addr) (items : Array Value) : Begins (.ref l) (itObj t l) fun h => Stands t h l items := by
  cases t with
  | true => exact begins_tuple l items
  | false => exact begins_list l items
theorem at_obj {t : Bool} {h : Heap} {it l : Addr} {i : Nat} (x : At t h it l i) : ∃ o, h.get? it = some o ∧ ∀ v, o.data ≠ .cell v := by
  cases t with
  | true =>
    obtain ⟨o, e, _, d⟩ := x
    exact ⟨o, e, fun v q => by rw [d] at q; cases q⟩
  | false =>
    obtain ⟨o, e, _, d⟩ := x
    exact ⟨o, e, fun v q => by rw [d] at q; cases q⟩
theorem at_keep {t : Bool} {h h' : Heap} {it l : Addr} {i : Nat} (x : At t h it l i) (k : ∀ o, h.get? it = some o → h'.get? it = some o) : At t h' it l i := by
  cases t with
  | true => exact Heap.IsTupleIter.at x k
  | false => exact Heap.IsListIter.at x k
theorem at_new {t : Bool} {h : Heap} {it l : Addr} (e : h.get? it = some (itObj t l)) : At t h it l 0 := by
  cases t with
  | true => exact ⟨_, e, rfl, rfl⟩
  | false => exact ⟨_, e, rfl, rfl⟩
section
variable {X : Cx} {pins : List (Addr × Obj)} {σ : List (Option V)} {H : Hp} {s : Shared} {t : Bool} {a : Addr} {xs ys : List V}
theorem stands (I : Inv X pins σ H s) (q : Sq t X.K H a xs) : ∃ its : List Value, Vals xs its ∧ Stands t s.heap a its.toArray ∧ a < s.heap.objs.size := by
  cases t with
  | true =>
    obtain ⟨its, rv, p, _⟩ := I.tuple q
    obtain ⟨o, ho, _⟩ := id p
    exact ⟨its, rv, p, Heap.lt_size ho⟩
  | false =>
    obtain ⟨its, rv, p, _⟩ := I.list q
    exact ⟨its, rv, p.isList, p.lt⟩
theorem sq_inj (I : Inv X pins σ H s) (q : Sq t X.K H a xs) (r : Sq t X.K H a ys) : xs = ys := by
  cases t with
  | true => exact I.tuple_inj q r
  | false => exact I.list_inj q r
end
/-- the two as they stand at each turn, the items in new pairs -/
def It2 (K : PySem.W.Frag) (t u : Bool) (a b : Addr) : It :=
  ⟨fun i H => ∃ xs ys : List V, Sq t K H a xs ∧ Sq u K H b ys ∧ i < min xs.length ys.length,
    fun i H v H' => ∃ T x y, v = .ref T ∧ H T = none ∧ H' = upd H T (.tup [x, y]) ∧ (∀ xs, Sq t K H a xs → xs[i]? = some x) ∧ ∀ ys, Sq u K H b ys → ys[i]? = some y,
    fun i H => ∃ xs ys : List V, Sq t K H a xs ∧ Sq u K H b ys ∧ i = min xs.length ys.length⟩
theorem turn2 {P : Program} {w : World} {K : PySem.W.Frag} {elts : List Expr} {kk : Nat} {tpos : Pos} {t u : Bool} {a b z TI TO i1 i2 : Addr} (D : ZipSep2 z TI TO i1 i2 [i1, a] [i2, b]) (n1 : a ≠ i1) (n2 : b ≠ i2) :
    Turn P w K (.Tuple elts kk tpos) (It2 K t u a b) [z, TI, TO, i1, i2] z (fun i h => IsZip h z TI TO .none ∧ IsTupOf2 h TI (.ref i1) (.ref i2) ∧ (∃ x y, IsTupOf2 h TO x y) ∧ At t h i1 a i ∧ At u h i2 b i) where
  mem := by simp
  obj := fun i h st c hc => by
    obtain ⟨k0, k1, ⟨x, y, k2⟩, k3, k4⟩ := st
    have e' : c = z ∨ (c = TI ∨ c = TO ∨ c = i1 ∨ c = i2) := by simpa using hc
    rcases e' with rfl | rfl | rfl | rfl | rfl
    · exact ⟨_, k0, fun v q => nomatch q⟩
    · exact ⟨_, k1, fun v q => nomatch q⟩
    · exact ⟨_, k2, fun v q => nomatch q⟩
    · exact at_obj k3
    · exact at_obj k4
  keep := fun i h h' st k => by
    obtain ⟨k0, k1, ⟨x, y, k2⟩, k3, k4⟩ := st
    exact ⟨k z (by simp) _ k0, k TI (by simp) _ k1, ⟨x, y, k TO (by simp) _ k2⟩, at_keep k3 fun o q => k i1 (by simp) o q, at_keep k4 fun o q => k i2 (by simp) o q⟩
  item := by
    intro X eP ew eK hc i pins s σ H E I hf st hg
    subst eP ew eK
    obtain ⟨k0, k1, k2, k3, k4⟩ := st
    obtain ⟨xs, ys, qx, qy, hi⟩ := hg
    obtain ⟨its, rv, p, _⟩ := stands I qx
    obtain ⟨jts, rw2, p2, _⟩ := stands I qy
    have l1 := rv.length
    have l2 := rw2.length
    have hh : X.A.in1.handled = none := I.ok.hd hc
    have G := GoesN.zip2 (elts := elts) (x1 := kk) (pos := tpos) D (draws (P := X.prog) (w := X.w) (A := X.A.in1) t hh i1 a n1 its.toArray) (draws (P := X.prog) (w := X.w) (A := X.A.in1) u hh i2 b n2 jts.toArray)
    have inH : ∀ c ∈ [z, TI, TO, i1, i2], c < s.heap.objs.size := fun c hcm => by
      have e' : c = z ∨ (c = TI ∨ c = TO ∨ c = i1 ∨ c = i2) := by simpa using hcm
      rcases e' with rfl | rfl | rfl | rfl | rfl
      · exact Heap.lt_size k0
      · exact Heap.lt_size k1
      · obtain ⟨_, _, k2⟩ := k2
        exact Heap.lt_size k2
      · obtain ⟨_, e, _⟩ := at_obj k3
        exact Heap.lt_size e
      · obtain ⟨_, e, _⟩ := at_obj k4
        exact Heap.lt_size e
    refine G.goes i s _ E (by simp only [List.size_toArray]; omega) ⟨k0, k1, k2, ⟨k3, p⟩, ⟨k4, p2⟩⟩ fun v h' tk hY st' hk htk => ?_
    obtain ⟨T, x, y, rfl, hT, hx, hy, ⟨o, ho, hoc, m, hod⟩⟩ := hY
    obtain ⟨j0, j1, j2, ⟨j3, _⟩, ⟨j4, _⟩⟩ := st'
    have hi1 : i < xs.length := by omega
    have hi2 : i < ys.length := by omega
    have vx : xs[i]? = some xs[i] := List.getElem?_eq_getElem hi1
    have vy : ys[i]? = some ys[i] := List.getElem?_eq_getElem hi2
    obtain ⟨x', hx', rx⟩ := rv.get vx
    obtain ⟨y', hy', ry⟩ := rw2.get vy
    have ex : x' = x := Option.some.inj (hx'.symm.trans (by simpa using hx))
    have ey : y' = y := Option.some.inj (hy'.symm.trans (by simpa using hy))
    subst ex
    subst ey
    have new : ObjOk X.prog X.w (upd H T (.tup [xs[i], ys[i]])) h' T (.tup [xs[i], ys[i]]) :=
      ⟨by show 2 ≤ sizeLine; decide, [x', y'], .cons rx (.cons ry .nil), ⟨o, ho, hoc, m, hod⟩⟩
    have I1 : Inv X pins σ (upd H T (.tup [xs[i], ys[i]])) { s with heap := h', toks := tk } :=
      I.turnedNew (t' := tk) (ch := [z, TI, TO, i1, i2]) (fun c ob hb q => hk c ob (fun hm => hb (by
        have e' : c = z ∨ c = TO ∨ c = i1 ∨ c = i2 := by simpa using hm
        rcases e' with rfl | rfl | rfl | rfl <;> simp)) q) hf hT new
    refine ⟨.ref T, _, I1, rfl, ⟨T, _, _, rfl, I.hok.fresh hT, rfl, fun l hl => by rw [sq_inj I hl qx]; exact vx, fun l hl => by rw [sq_inj I hl qy]; exact vy⟩, ⟨j0, j1, j2, j3, j4⟩, fun c hcm => ?_⟩
    rw [upd_ne (Nat.ne_of_lt (Nat.lt_of_lt_of_le (inH c hcm) hT))]
    exact (hf c hcm).1
  done := by
    intro X eP ew eK hc i pins s σ H E I hf st hg
    subst eP ew eK
    obtain ⟨k0, k1, k2, k3, k4⟩ := st
    obtain ⟨xs, ys, qx, qy, hi⟩ := hg
    obtain ⟨its, rv, p, _⟩ := stands I qx
    obtain ⟨jts, rw2, p2, _⟩ := stands I qy
    have l1 := rv.length
    have l2 := rw2.length
    have hh : X.A.in1.handled = none := I.ok.hd hc
    have G := GoesN.zip2 (elts := elts) (x1 := kk) (pos := tpos) D (draws (P := X.prog) (w := X.w) (A := X.A.in1) t hh i1 a n1 its.toArray) (draws (P := X.prog) (w := X.w) (A := X.A.in1) u hh i2 b n2 jts.toArray)
    have e : i = min its.toArray.size jts.toArray.size := by simp only [List.size_toArray]; omega
    subst e
    exact G.stops s _ E ⟨k0, k1, k2, ⟨k3, p⟩, ⟨k4, p2⟩⟩ fun h' tk hk htk => I.turnedL (t' := tk) (ch := [z, TI, TO, i1, i2]) (fun c ob hb q => hk c ob (fun hm => hb (by
        have e' : c = z ∨ c = TO ∨ c = i1 ∨ c = i2 := by simpa using hm
        rcases e' with rfl | rfl | rfl | rfl <;> simp)) q) hf
  self := fun _ _ _ _ _ st k => wpAny_pyIter_zip st.1 k
def iZip2 (K : PySem.W.Frag) (ta : TA) : TI := fun σ H R => ta σ H fun vs H1 => ∃ (t u : Bool) (a b : Addr) (xs ys : List V), vs = [.ref a, .ref b] ∧ Sq t K H1 a xs ∧ Sq u K H1 b ys ∧ R (It2 K t u a b) H1
theorem pi_zip2 {X : Cx} {e e2 : Expr} {ta : TA} {p pos tpos : Pos} {elts : List Expr} {kk : Nat} (hg : Gl X "zip") (hm : X.mg "zip" = none) (ha : PA X [e, e2] ta)
    (no_star : starEach [e, e2] X.env = (false, eval e X.env) :: starEach [e2] X.env := by rfl) (no_rest : (backTo pos (starEach [e2] X.env)).any (·.1) = false := by rfl) :
    PI X (.Tuple elts kk tpos) (.Call (.Name "zip" p) [e, e2] [] pos) (iZip2 X.K ta) := by
  constructor
  intro pins s σ H R I h
  refine Call_ (ld_blt I hg hm PyProof.Rows.boot_zip (callWith_type1 (thn (ha.run pos pins s σ H _ I h) fun us s1 got => ?_) no_star no_rest))
  obtain ⟨vs, H1, I1, r1, t, u, a, b, xs, ys, ex, qx, qy, q⟩ := got
  subst ex
  cases r1 with
  | cons r rr =>
    cases rr with
    | cons r' rr =>
      cases rr
      cases r
      cases r'
      obtain ⟨its, rv, p1, la⟩ := stands I1 qx
      obtain ⟨jts, rw2, p2, lb⟩ := stands I1 qy
      refine zip_begins2 (begins t a its.toArray) (begins u b jts.toArray) p1 p2 fun h' k0 k1 k2 k3 k4 hsz hk => wpAny_pyIter_zip k0 ?_
      have J2 : Inv X pins σ H1 { s1 with heap := h' } := I1.kept (t' := s1.toks) hk
      refine ⟨s1.heap.objs.size + 4, [s1.heap.objs.size + 4, s1.heap.objs.size + 2, s1.heap.objs.size + 3, s1.heap.objs.size, s1.heap.objs.size + 1], _, _, H1, rfl, J2,
        turn2 (zip_sep2 (fp1 := [a]) (fp2 := [b]) (fun c hc => by rw [List.mem_singleton.mp hc]; exact la) (fun c hc => by rw [List.mem_singleton.mp hc]; exact lb)) (Nat.ne_of_lt la) (Nat.ne_of_lt (Nat.lt_succ_of_lt lb)), ⟨k0, k1, ⟨_, _, k2⟩, at_new k3, at_new k4⟩, fun c hcm => ?_, q⟩
      have up : s1.heap.objs.size ≤ c := by
        simp only [List.mem_cons, List.not_mem_nil, or_false] at hcm
        rcases hcm with k | k | k | k | k <;> subst k <;> first | exact Nat.le_add_right .. | exact Nat.le_refl _
      exact I1.fpOk up (I1.hok.fresh up)
theorem walk2 {K : PySem.W.Frag} {t u : Bool} {a b : Addr} {xs ys : List V} {n : Nat} (hn : n = min xs.length ys.length) : Walk (It2 K t u a b) n (fun H => Sq t K H a xs ∧ Sq u K H b ys) (YPair (fun i => xs[i]?) (fun i => ys[i]?)) := by
  subst hn
  refine ⟨fun i _ hi q => ⟨xs, ys, q.1, q.2, hi⟩, fun _ q => ⟨xs, ys, q.1, q.2, rfl⟩, fun i H v H' _ q y => ?_⟩
  obtain ⟨T, m, n, e1, e2, e3, e4, e5⟩ := y
  exact ⟨T, m, n, e1, e2, e3, e4 xs q.1, e5 ys q.2⟩
/-! ### one list or tuple -/
def ItS (K : PySem.W.Frag) (t : Bool) (a : Addr) : It := match t with | true => Itt K a | false => Itl K a
def iSq (K : PySem.W.Frag) (tl : TE) : TI := fun σ H R => tl σ H fun x H1 => ∃ (t : Bool) (a : Addr) (xs : List V), x = .ref a ∧ Sq t K H1 a xs ∧ R (ItS K t a) H1
theorem pi_sq {X : Cx} {tg l : Expr} {tl : TE} (hl : PE X l tl) : PI X tg l (iSq X.K tl) := by
  constructor
  intro pins s σ H R I h
  refine thn (hl.run pins s σ H _ I h) fun v s1 got => ?_
  obtain ⟨x, H1, I1, r1, t, a, xs, e, hq, q⟩ := got
  subst e
  cases r1
  have up : ∀ b ∈ [s1.heap.objs.size], FpOk X pins H1 b := fun b hb => by
    rw [List.mem_singleton.mp hb]
    exact I1.fpOk (Nat.le_refl _) (I1.hok.fresh (Nat.le_refl _))
  have grow : ∀ (o : Obj), Inv X pins σ H1 { s1 with heap := s1.heap.push o } := fun o => I1.kept (t' := s1.toks) fun _ _ z => Heap.get?_push_of_some _ z
  cases t with
  | true =>
    obtain ⟨its, _, p, _⟩ := I1.tuple hq
    exact wpAny_pyIter_tuple (show s1.heap.IsTuple a its.toArray from p) ⟨_, _, _, _, H1, rfl, grow _, turn_tuple a _, ⟨_, Heap.get?_push_size _ rfl, rfl, rfl⟩, up, q⟩
  | false =>
    obtain ⟨its, _, p, _⟩ := I1.list hq
    exact wpAny_pyIter_list p.isList ⟨_, _, _, _, H1, rfl, grow _, turn_list a _, ⟨_, Heap.get?_push_size _ rfl, rfl, rfl⟩, up, q⟩
theorem walkS {K : PySem.W.Frag} {t : Bool} {a : Addr} {xs : List V} : Walk (ItS K t a) xs.length (fun H => Sq t K H a xs) (YAt xs) := by
  cases t with
  | true => exact walk_tup
  | false => exact walk_list
end ZM
/-! sorted of pairs whose firsts are unlike ints, whatever stands second. -/
namespace SrtL
open PySem PyProof.Rows Srt SrtO
section
variable {prog : Program} {w : World} {A : Around} {s : Shared} {E : Value → Shared → Prop}
def IsLd (h : Heap) (v : Value) (x : Int) : Prop := ∃ a o t y n, v = .ref a ∧ h.get? a = some o ∧ o.cls = .type "tuple" ∧ o.data = .seq #[.int x t, y] n
theorem IsLd.keeps {h h' : Heap} {v : Value} {x : Int} (p : IsLd h v x) (k : ∀ b o, h.get? b = some o → o.cls = .type "tuple" → h'.get? b = some o) : IsLd h' v x := by
  obtain ⟨a, o, t, y, n, e, ho, hc, hd⟩ := p
  exact ⟨a, o, t, y, n, e, k _ _ ho hc, hc, hd⟩
theorem firsts_ld {h : Heap} {k : Value → Int} : ∀ {vs : List Value}, (∀ v ∈ vs, IsLd h v (k v)) → ∃ fs : List Value, PySem.W.KatTups h vs fs ∧ fs.length = vs.length ∧ ∀ f ∈ fs, ∃ x t, f = Value.int x t
  | [], _ => ⟨[], PySem.W.KatTups.nil, rfl, fun _ hm => by simp at hm⟩
  | v :: vs, hp => by
    obtain ⟨fs, h1, h2, h3⟩ := firsts_ld (vs := vs) fun v' hm => hp v' (List.mem_cons_of_mem _ hm)
    obtain ⟨a, o, t, y, n, e, ho, hc, hd⟩ := hp v (List.mem_cons_self ..)
    subst e
    refine ⟨.int _ t :: fs, PySem.W.KatTups.cons ho hc hd rfl h1, by rw [List.length_cons, List.length_cons, h2], fun f hm => ?_⟩
    rcases List.mem_cons.mp hm with rfl | hm
    · exact ⟨_, t, rfl⟩
    · exact h3 f hm
def ltL (k : Value → Int) (v u : Value) : Bool := decide (k v < k u)
theorem swo_ld (k : Value → Int) : Swo (ltL k) := by
  refine ⟨fun x y h => ?_, fun x y z h1 h2 => ?_⟩
  · have a := of_decide_eq_true h
    exact decide_eq_false (by omega)
  · have a := of_decide_eq_false h1
    have b := of_decide_eq_false h2
    exact decide_eq_false (by omega)
theorem ld_cmp {vs : List Value} {k : Value → Int} (hp : ∀ v ∈ vs, IsLd s.heap v (k v)) (hu : ∀ v ∈ vs, ∀ u ∈ vs, k v = k u → v = u) : Cmp prog w A s (tuples' true) (fun p => p.1 ∈ vs) (lt2 (ltL k)) := by
  intro p q hm hm'
  have h1 := hp _ hm
  have h2 := hp _ hm'
  have h3 := hu _ hm _ hm'
  show wpAny (model prog w) A (keyLt' (tuples' true) p.1 q.1) (fun r s' => s' = s ∧ r = ltL k p.1 q.1) (fun _ _ => False) s
  unfold ltL
  generalize k p.1 = x at h1 h3 ⊢
  generalize k q.1 = x' at h2 h3 ⊢
  obtain ⟨a, o, t, y, n, e, ho, hc, hd⟩ := h1
  obtain ⟨a', o', t', y', n', e', ho', hc', hd'⟩ := h2
  rw [e, e'] at h3
  rw [e, e']
  refine PySem.W.kat_lt ho hd ho' hd' ?_
  show PySem.W.KatLex prog w A true (decide (2 < 2)) _ [(.int x t, .int x' t'), (y, y')] 0 s
  refine PySem.W.kat_cons (SeqAt.EqAt.int_int x t x' t' prog w _ _ ?_)
  refine PySem.W.kat_go (fun e1 => ?_) (fun e1 => ?_)
  · have ex : x = x' := by simpa using e1
    have ea := h3 ex
    injection ea with ea
    subst ea
    have eo : o = o' := Option.some.inj (ho.symm.trans ho')
    subst eo
    have ed := hd.symm.trans hd'
    injection ed with ed _
    have el := congrArg Array.toList ed
    have ey : y = y' := by
      injection el with _ el
      injection el
    subst ey
    refine PySem.W.kat_yes (PySem.W.kat_cons (SeqAt.EqAt.same y prog w _ _ ?_))
    refine PySem.W.kat_go (fun _ => ?_) (fun e2 => ?_)
    · exact PySem.W.kat_yes (PySem.W.kat_nil ⟨rfl, (decide_eq_false (by omega)).symm⟩)
    · simp at e2
  · have ex : ¬ x = x' := by simpa using e1
    exact PySem.W.kat_no (oneLt_int ⟨rfl, rfl⟩)
theorem ld_sortable {a : Addr} {vs : List Value} {k : Value → Int} (h0 : 0 < vs.length) (hp : ∀ v ∈ vs, IsLd s.heap v (k v)) (hu : ∀ v ∈ vs, ∀ u ∈ vs, k v = k u → v = u) (ha : ∀ o, s.heap.get? a = some o → o.cls ≠ .type "tuple") : SortableO prog w A s a vs (ltL k) := by
  intro h' keep
  have hp' : ∀ v ∈ vs, IsLd h' v (k v) := fun v hm => (hp v hm).keeps fun b o e c => keep b o (fun z => by subst z; exact ha o e c) e
  obtain ⟨fs, h1, h2, h3⟩ := firsts_ld hp'
  refine ⟨tuples' true, fun Q E hq => ?_, ld_cmp hp' hu⟩
  refine PySem.W.kat_kind (T := .type "int") h1 (by omega) (fun f hm => ?_) (by rfl) ?_
  · obtain ⟨x, t, rfl⟩ := h3 f hm
    exact PySem.W.Looks.now
  · have e : (Value.type "int" != Value.type "tuple") = true := by first | decide +kernel | rfl | decide
    rw [e]
    exact hq
theorem sorted_ld {l : Addr} {vs : List Value} {k : Value → Int} {Q : Value → Shared → Prop} (hl : s.heap.IsList l vs.toArray) (hz : vs.length ≤ sizeLine) (hp : ∀ v ∈ vs, IsLd s.heap v (k v)) (hu : ∀ v ∈ vs, ∀ u ∈ vs, k v = k u → v = u)
    (h : ∀ (h' : Heap) (d : Addr) (out : List Value), Srtd (ltL k) out → Stb (ltL k) out vs → (∀ b o, s.heap.get? b = some o → h'.get? b = some o) → s.heap.objs.size ≤ d → (∃ n, h'.get? d = some (seqObj "list" out.toArray n)) → Q (.ref d) { s with heap := h' }) :
    wpAny (model prog w) A (call (.builtin "sorted") [.ref l]) Q E s := by
  refine sorted_ord (swo_ld k) hl hz (fun h2 h₁ a ha kk => ?_) fun out hs hb => ?_
  · refine ld_sortable (s := { s with heap := h₁ }) (by omega) (fun v hm => (hp v hm).keeps fun b o e _ => (kk b o e).2) hu fun o e => ?_
    have e' : some o = some (seqObj "list" vs.toArray 0) := e.symm.trans ha
    cases e'
    intro c
    exact absurd (Value.type.inj c) (by decide)
  · exact h _ _ out hs hb (fun b o e => sortedAll_old e) (Nat.le_succ _) (sortedAll_at s.heap vs out.toArray)
end
end SrtL
namespace SrtL
theorem perm_lift {α β : Type} {e : α → β} {l m : List β} (h : l.Perm m) : ∀ L : List α, L.map e = m → ∃ L' : List α, L'.Perm L ∧ L'.map e = l := by
  induction h with
  | nil =>
    intro L hL
    exact ⟨L, List.Perm.refl _, hL⟩
  | cons x _ ih =>
    intro L hL
    cases L with
    | nil => cases hL
    | cons z Z =>
      injection hL with h1 h2
      obtain ⟨L', p, e'⟩ := ih Z h2
      exact ⟨z :: L', p.cons z, by rw [List.map_cons, h1, e']⟩
  | swap x y l =>
    intro L hL
    match L, hL with
    | z1 :: z2 :: Z, hL =>
      injection hL with h1 h2
      injection h2 with h2 h3
      exact ⟨z2 :: z1 :: Z, List.Perm.swap z1 z2 Z, by rw [List.map_cons, List.map_cons, h1, h2, h3]⟩
  | trans _ _ ih1 ih2 =>
    intro L hL
    obtain ⟨L2, p2, e2⟩ := ih2 L hL
    obtain ⟨L1, p1, e1⟩ := ih1 L2 e2
    exact ⟨L1, p1.trans p2, e1⟩
end SrtL
namespace L2
open PySem PySem.Spec PyProof.Rows
/-- sorted(xs), xs a list of pairs with unlike leads: a new list, leads rising -/
def rSortedLd (α : Type) (K : PySem.W.Frag) : List V → Hp → VK → Prop := fun vs H Q => ∃ (a : Addr) (L : List α) (e : α → V) (g : α → Int), vs = [V.ref a] ∧ SqL K H a (L.map e) ∧ (∀ x ∈ L, ∃ t y, e x = V.ref t ∧ SqT K H t [.int (g x), y]) ∧ (∀ x ∈ L, ∀ y ∈ L, g x = g y → x = y) ∧
  ∀ (L' : List α) (p : Addr), L'.Perm L → L'.Pairwise (fun x y => g x ≤ g y) → H p = none → Q (.ref p) (upd H p (.lst (L'.map e)))
section
variable {X : Cx}
open Classical in
theorem cr_sortedLd {α : Type} : CallR X (.builtin "sorted") (rSortedLd α X.K) := by
  intro pins s σ H vs us Q I r h
  obtain ⟨a, L, e, g, rfl, hs, hx, hu, q⟩ := h
  obtain ⟨its, rv, hl, hz⟩ := I.list hs
  obtain ⟨u, rfl, ru⟩ := vals1 r
  obtain rfl : u = Value.ref a := ru
  have hr : ∀ x ∈ L.map e, ∃ t, x = V.ref t := fun x m => by
    obtain ⟨z, hz, rfl⟩ := List.mem_map.mp m
    obtain ⟨t, _, e, _⟩ := hx z hz
    exact ⟨t, e⟩
  obtain ⟨e1, e2⟩ := refs_back rv hr
  -- the lead of a value
  let k : V → Int := fun v => if h : ∃ i, ∃ t y, v = V.ref t ∧ SqT X.K H t [.int i, y] then h.choose else 0
  have hk : ∀ x ∈ L, k (e x) = g x := fun x m => by
    have h := hx x m
    have h2 : ∃ i, ∃ t y, e x = V.ref t ∧ SqT X.K H t [.int i, y] := ⟨_, h⟩
    have e3 : k (e x) = h2.choose := dif_pos h2
    obtain ⟨t, y, et, hy⟩ := h2.choose_spec
    obtain ⟨t', y', et', hy'⟩ := h
    rw [et] at et'
    injection et' with et'
    subst et'
    have := I.tuple_inj hy hy'
    injection this with this
    injection this with this
    rw [e3, this]
  refine SrtL.sorted_ld (k := fun u => k (backV u)) hl.isList (by rw [← rv.length]; exact hz) (fun v hv => ?_) (fun v hv u hu2 ev => ?_) fun h' d out h1 h2 kp hd hn => ?_
  · obtain ⟨t, rfl⟩ := e2 v hv
    have hm : V.ref t ∈ L.map e := by rw [e1]; exact List.mem_map.mpr ⟨_, hv, rfl⟩
    obtain ⟨x, hxm, ex⟩ := List.mem_map.mp hm
    obtain ⟨t', y, et, ht⟩ := hx x hxm
    rw [ex] at et
    cases et
    obtain ⟨its2, r2, ⟨o, ho, hc, n, hd⟩, _⟩ := I.tuple ht
    obtain ⟨u1, u2, rfl, ri, rj⟩ := vals2 r2
    obtain ⟨t1, rfl⟩ := ri
    have ek : k (backV (Value.ref t)) = g x := by
      have := hk x hxm
      rw [ex] at this
      exact this
    refine ⟨t, o, t1, u2, n, rfl, ho, hc, ?_⟩
    rw [hd]
    show _ = Data.seq #[Value.int (k (backV (Value.ref t))) t1, u2] n
    rw [ek]
  · obtain ⟨t, rfl⟩ := e2 v hv
    obtain ⟨t', rfl⟩ := e2 u hu2
    have hm : V.ref t ∈ L.map e := by rw [e1]; exact List.mem_map.mpr ⟨_, hv, rfl⟩
    have hm' : V.ref t' ∈ L.map e := by rw [e1]; exact List.mem_map.mpr ⟨_, hu2, rfl⟩
    obtain ⟨x, hxm, ex⟩ := List.mem_map.mp hm
    obtain ⟨y, hym, ey⟩ := List.mem_map.mp hm'
    have ev : k (V.ref t) = k (V.ref t') := ev
    rw [← ex, ← ey, hk x hxm, hk y hym] at ev
    have z := hu x hxm y hym ev
    rw [z, ey] at ex
    injection ex with ex
    rw [ex]
  · have h3 : ∀ u ∈ out, ∃ a, u = Value.ref a := fun u hu => e2 u (h2.perm.mem_iff.mp hu)
    obtain ⟨n, hn⟩ := hn
    have hb : (out.map backV).Perm (L.map e) := by
      rw [e1]
      exact h2.perm.map backV
    obtain ⟨L', pL, eL⟩ := SrtL.perm_lift hb L rfl
    have hs2 : L'.Pairwise (fun x y => g x ≤ g y) := by
      have h4 : (out.map backV).Pairwise (fun x y => k x ≤ k y) := by
        rw [List.pairwise_map]
        refine List.Pairwise.imp (fun {x y} z => ?_) h1
        exact Int.not_lt.mp (of_decide_eq_false z)
      rw [← eL, List.pairwise_map] at h4
      refine List.Pairwise.imp_of_mem (fun {x y} mx my z => ?_) h4
      rw [hk x (pL.mem_iff.mp mx), hk y (pL.mem_iff.mp my)] at z
      exact z
    have q2 := q L' d pL hs2 (I.hok.fresh hd)
    rw [eL] at q2
    refine ⟨.ref d, upd H d (.lst (out.map backV)), I.laid (t' := s.toks) kp hd ⟨?_, out, n, vals_back h3, hn⟩, rfl, q2⟩
    rw [hb.length_eq, rv.length]
    rw [← rv.length]
    exact hz
end
end L2
/-! tuple * 0 and tuple * 1. -/
namespace L2
open PySem PySem.Spec PyProof.Rows
theorem tuple_mul0 (l : Addr) (items : Array Value) (n : Nat) (dd : Option Addr) (sl : Array (Option Value)) (u : Tok) (hi : items.isEmpty = false) :
    Meets (Builtin.«tuple.__mul__» ⟨[.ref l, .int 0 u], []⟩) (fun _ R s => s.heap.get? l = some { cls := .type "tuple", dict := dd, data := .seq items n, slots := sl } ∧
      R (.ok (.ret (Value.ref s.heap.objs.size))) { s with heap := s.heap.push { cls := Value.type "tuple", data := Data.seq #[] }, toks := s.toks }) :=
  .of_wp fun prog w A R s h => by
    obtain ⟨hp, g, d, tk, os⟩ := s
    obtain ⟨hl, h⟩ := h
    have f1 := AutoSeq1.idx_int
    have c1 : (items.isEmpty || (0 : Int) == 1) = false := by rw [hi]; rfl
    wp_walk using wpAny_loadPart' hl
    repeat (first
      | (refine wpAny_ite_false (decide_eq_false (by rw [c1]; exact Bool.false_ne_true)) ?_; wp_walk using wpAny_loadPart' hl))
    exact ⟨_, rfl, h⟩
theorem tuple_mul1 (l : Addr) (items : Array Value) (n : Nat) (dd : Option Addr) (sl : Array (Option Value)) (u : Tok) :
    Meets (Builtin.«tuple.__mul__» ⟨[.ref l, .int 1 u], []⟩) (fun _ R s => s.heap.get? l = some { cls := .type "tuple", dict := dd, data := .seq items n, slots := sl } ∧
      R (.ok (.ret (Value.ref l))) s) :=
  .of_wp fun prog w A R s h => by
    obtain ⟨hp, g, d, tk, os⟩ := s
    obtain ⟨hl, h⟩ := h
    have f1 := AutoSeq1.idx_int
    have c1 : (items.isEmpty || (1 : Int) == 1) = true := by cases items.isEmpty <;> rfl
    wp_walk using wpAny_loadPart' hl
    exact ⟨_, rfl, h⟩
/-- t * k, k none or more: told is a tuple, a new one or the one that was handed in -/
def rRepA (K : PySem.W.Frag) : R2 := fun x y H Q => ∃ (l : Addr) (k : Nat) (xs : List V), x = .ref l ∧ y = .int k ∧ SqT K H l xs ∧ xs ≠ [] ∧ k ≤ 1000 ∧ xs.length ≤ 1000 ∧ ∀ H' p, (∀ b o, H b = some o → H' b = some o) → SqT K H' p (List.replicate k xs).flatten → Q (.ref p) H'
section
variable {X : Cx}
theorem upd_keep {H : Hp} {p : Addr} {o : HO} (hp : H p = none) : ∀ b u, H b = some u → (upd H p o) b = some u := fun b u e => by
  rw [upd_ne (fun z => by rw [z, hp] at e; cases e)]
  exact e
theorem op_repA : OpR X (binaryOp .Mult) (rRepA X.K) := by
  intro pins s σ H x y v u Q I rx ry h
  obtain ⟨l, k, xs, rfl, rfl, hT, hne, h1, hz, q⟩ := h
  rcases Nat.lt_or_ge k 2 with h2 | h2
  · cases rx
    obtain ⟨t, rfl⟩ := ry
    obtain ⟨its, r, ⟨⟨cls, dd, data, sl⟩, ho, hc, n, hd⟩, hs⟩ := I.tuple hT
    simp only at hc hd
    subst hc hd
    have hle : its.length = xs.length := r.length.symm
    have hi : its.toArray.isEmpty = false := by
      cases its with
      | nil =>
        exfalso
        exact hne (List.eq_nil_of_length_eq_zero hle.symm)
      | cons a b => rfl
    have hk : k = 0 ∨ k = 1 := by omega
    rcases hk with rfl | rfl
    · refine wpAny_binaryOp_repeat_ref (T := "tuple") (U := "int") (by decide) ⟨_, ho, rfl⟩ (fun s' => typeIs_int s' _ t) noFill_tuple_mul F.fills_int_mul F.slot_int_rmul repeat_tuple F.slot_int_index.lookup
        (call_meets F.slot_int_rmul (typeIs_int s _ t) F.entry_int_rmul (F.args_int_rmul_2 _ _) (int_rmul_tuple _ t l its.toArray n dd sl)
          ⟨ho, rfl, ⟨_, ho, rfl⟩, call_meets F.slot_tuple_mul ⟨_, ho, rfl⟩ F.entry_tuple_mul (F.args_tuple_mul_2 _ _) (tuple_mul0 l its.toArray n dd sl t hi) ⟨ho, ?_⟩⟩)
      exact ⟨.ref s.heap.objs.size, _, I.laid (t' := s.toks) (o := .tup []) (fun b ob q => Heap.get?_push_of_some _ q) (Nat.le_refl _) ⟨Nat.zero_le _, _, .nil, IsTup.new _ _⟩, rfl, q _ _ (upd_keep (I.hok.fresh (Nat.le_refl _))) (.inl (.inl upd_same))⟩
    · refine wpAny_binaryOp_repeat_ref (T := "tuple") (U := "int") (by decide) ⟨_, ho, rfl⟩ (fun s' => typeIs_int s' _ t) noFill_tuple_mul F.fills_int_mul F.slot_int_rmul repeat_tuple F.slot_int_index.lookup
        (call_meets F.slot_int_rmul (typeIs_int s _ t) F.entry_int_rmul (F.args_int_rmul_2 _ _) (int_rmul_tuple _ t l its.toArray n dd sl)
          ⟨ho, rfl, ⟨_, ho, rfl⟩, call_meets F.slot_tuple_mul ⟨_, ho, rfl⟩ F.entry_tuple_mul (F.args_tuple_mul_2 _ _) (tuple_mul1 l its.toArray n dd sl t) ⟨ho, ?_⟩⟩)
      refine ⟨.ref l, H, I, rfl, q _ _ (fun b o e => e) ?_⟩
      have e : (List.replicate 1 xs).flatten = xs := by simp
      rw [e]
      exact hT
  · refine op_repT pins s σ H _ _ v u Q I rx ry ⟨l, (k : Int), xs, rfl, rfl, hT, hne, by omega, by omega, hz, fun p hp => q _ _ (upd_keep hp) (.inl (.inl ?_))⟩
    rw [Int.toNat_natCast]
    exact upd_same
end
end L2
/-! sum of a tuple of ints. -/
namespace L2
open PySem PySem.Spec PyProof.Rows
section
variable {X : Cx}
def rSumT (K : PySem.W.Frag) : List V → Hp → VK → Prop := fun vs H Q => ∃ (a : Addr) (ns : List Int), vs = [V.ref a] ∧ SqT K H a (ns.map V.int) ∧ Q (.int ns.sum) H
theorem cr_sumT (hc : X.calm = true) : CallR X (.builtin "sum") (rSumT X.K) := by
  intro pins s σ H vs us Q I r h
  obtain ⟨a, ns, rfl, hs, q⟩ := h
  obtain ⟨its, rv, hl, _⟩ := I.tuple hs
  rw [Vals.ref1 r]
  have hi := rv.ints
  obtain ⟨xs, hx⟩ := hi.allInts.items
  have hn : numsOf its.toArray.toList = ns := by rw [show its.toArray.toList = its from rfl, hi.numsOf]
  rw [hx] at hl hn
  rw [nums_intItems] at hn
  refine PySem.W.ktm_sumG (I.ok.hd hc) hl fun h' tk t' hk => ?_
  rw [preSum_eq, List.take_of_length_le (by simp), hn]
  exact ⟨.int _, H, I.kept hk, ⟨_, rfl⟩, q⟩
end
end L2
/-! Comprehensions over two, no conditions: how they are read over walks. -/
namespace L2
open PySem PySem.Spec PyProof.Rows
theorem wipe_in {σ : St} {i : Nat} : ∀ {vs : List Nat}, i ∈ vs → i < σ.length → (wipe σ vs)[i]? = some none
  | v :: vs, h, hl => by
    show ((wipe σ vs).set v none)[i]? = some none
    by_cases e : v = i
    · subst e
      rw [List.getElem?_set_self (by rw [wipe_length]; exact hl)]
    · rw [List.getElem?_set_ne e]
      rcases List.mem_cons.mp h with h | h
      · exact absurd h.symm e
      · exact wipe_in h hl
theorem wipe_eq {σ τ : St} {vs : List Nat} (hl : σ.length = τ.length) (h : ∀ i, i ∉ vs → σ[i]? = τ[i]?) : wipe σ vs = wipe τ vs := by
  refine List.ext_getElem? fun i => ?_
  by_cases hi : i ∈ vs
  · by_cases hlt : i < σ.length
    · rw [wipe_in hi hlt, wipe_in hi (by omega)]
    · rw [List.getElem?_eq_none (by rw [wipe_length]; omega), List.getElem?_eq_none (by rw [wipe_length]; omega)]
  · rw [wipe_out hi, wipe_out hi, h i hi]
theorem wipe_set {σ : St} {i : Nat} {v : Option V} {vs : List Nat} (h : i ∈ vs) : wipe (σ.set i v) vs = wipe σ vs :=
  wipe_eq (List.length_set ..) fun j hj => List.getElem?_set_ne (show i ≠ j from fun e => hj (by rw [← e]; exact h))
theorem wipe_wipe {σ : St} {vs : List Nat} : wipe (wipe σ vs) vs = wipe σ vs := wipe_eq (wipe_length ..) fun _ hi => wipe_out hi
section
variable {J J1 : It} {n n1 : Nat} {G G1 : Hp → Prop} {Y Y1 : Nat → Hp → V → Hp → Prop}
theorem two_out (w : Walk J n G Y) {g g1 : TG} {wi1 : TI} {te : TE} {vs vs1 : List Nat} {σ : St} {H1 : Hp} {D : Addr} {Qd : Hp → Prop} (Pv : Nat → Hp → Prop) (h0 : Pv 0 (upd H1 D (.lst []))) (hG : ∀ i H, i ≤ n → Pv i H → G H)
    (hs : ∀ i x H H', i < n → Pv i H → Y i H x H' → g x (wipe σ vs) H' fun σ2 H2 => wipe σ2 vs = wipe σ vs ∧ wi1 σ2 H2 fun J1 H4 => ∃ W1 : Nat → Nat → Hp → Prop, (∃ m, W1 0 m H4) ∧ ∀ j k H, W1 j k H →
      (J1.stop j H ∧ Pv (i + 1) H) ∨ (J1.go j H ∧ ∃ Nx1 : Hp → Prop, (∀ H', Nx1 H' → ∃ k', k' < k ∧ W1 (j + 1) k' H') ∧ ∀ x H', J1.yld j H x H' → g1 x (wipe σ2 vs1) H' fun σ3 H5 => wipe σ3 vs1 = wipe σ2 vs1 ∧ tYes σ3 H5 fun b H6 =>
        if b = true then te σ3 H6 fun y H7 => ∃ acc, H7 D = some (.lst acc) ∧ acc.length < sizeLine ∧ Nx1 (upd H7 D (.lst (acc ++ [y]))) else Nx1 H6)) (hd : ∀ H, Pv n H → Qd H) :
    ∃ W : Nat → Nat → Hp → Prop, (∃ m, W 0 m (upd H1 D (.lst []))) ∧ ∀ i m H, W i m H →
      (J.stop i H ∧ Qd H) ∨ (J.go i H ∧ ∃ Nx : Hp → Prop, (∀ H', Nx H' → ∃ m', m' < m ∧ W (i + 1) m' H') ∧ ∀ x H', J.yld i H x H' → g x (wipe σ vs) H' fun σ2 H2 => wipe σ2 vs = wipe σ vs ∧ tYes σ2 H2 fun b H3 =>
        if b = true then wi1 σ2 H3 fun J1 H4 => ∃ W1 : Nat → Nat → Hp → Prop, (∃ m, W1 0 m H4) ∧ ∀ j k H, W1 j k H →
          (J1.stop j H ∧ Nx H) ∨ (J1.go j H ∧ ∃ Nx1 : Hp → Prop, (∀ H', Nx1 H' → ∃ k', k' < k ∧ W1 (j + 1) k' H') ∧ ∀ x H', J1.yld j H x H' → g1 x (wipe σ2 vs1) H' fun σ3 H5 => wipe σ3 vs1 = wipe σ2 vs1 ∧ tYes σ3 H5 fun b H6 =>
            if b = true then te σ3 H6 fun y H7 => ∃ acc, H7 D = some (.lst acc) ∧ acc.length < sizeLine ∧ Nx1 (upd H7 D (.lst (acc ++ [y]))) else Nx1 H6)
        else Nx H3) := by
  refine ⟨fun i m H => m = n - i ∧ i ≤ n ∧ Pv i H, ⟨n, by simp, Nat.zero_le _, h0⟩, ?_⟩
  rintro i m H ⟨rfl, hi, p⟩
  have q := hG i H hi p
  by_cases hlt : i < n
  · refine .inr ⟨w.goes i H hlt q, Pv (i + 1), fun H' p' => ⟨n - (i + 1), by omega, rfl, hlt, p'⟩, fun x H' y => hs i x H H' hlt p (w.yields i H x H' hlt q y)⟩
  · have e : i = n := by omega
    subst e
    exact .inl ⟨w.stops H q, hd H p⟩
theorem two_in (w : Walk J1 n1 G1 Y1) {g1 : TG} {te : TE} {vs1 : List Nat} {σ2 : St} {H4 : Hp} {D : Addr} {Qs : Hp → Prop} (Pv : Nat → Hp → Prop) (h0 : Pv 0 H4) (hG : ∀ j H, j ≤ n1 → Pv j H → G1 H)
    (hs : ∀ j x H H', j < n1 → Pv j H → Y1 j H x H' → g1 x (wipe σ2 vs1) H' fun σ3 H5 => wipe σ3 vs1 = wipe σ2 vs1 ∧ te σ3 H5 fun y H7 => ∃ acc, H7 D = some (.lst acc) ∧ acc.length < sizeLine ∧ Pv (j + 1) (upd H7 D (.lst (acc ++ [y])))) (hd : ∀ H, Pv n1 H → Qs H) :
    ∃ W1 : Nat → Nat → Hp → Prop, (∃ m, W1 0 m H4) ∧ ∀ j k H, W1 j k H →
      (J1.stop j H ∧ Qs H) ∨ (J1.go j H ∧ ∃ Nx1 : Hp → Prop, (∀ H', Nx1 H' → ∃ k', k' < k ∧ W1 (j + 1) k' H') ∧ ∀ x H', J1.yld j H x H' → g1 x (wipe σ2 vs1) H' fun σ3 H5 => wipe σ3 vs1 = wipe σ2 vs1 ∧ tYes σ3 H5 fun b H6 =>
        if b = true then te σ3 H6 fun y H7 => ∃ acc, H7 D = some (.lst acc) ∧ acc.length < sizeLine ∧ Nx1 (upd H7 D (.lst (acc ++ [y]))) else Nx1 H6) := by
  refine ⟨fun j m H => m = n1 - j ∧ j ≤ n1 ∧ Pv j H, ⟨n1, by simp, Nat.zero_le _, h0⟩, ?_⟩
  rintro j m H ⟨rfl, hj, p⟩
  have q := hG j H hj p
  by_cases hlt : j < n1
  · refine .inr ⟨w.goes j H hlt q, Pv (j + 1), fun H' p' => ⟨n1 - (j + 1), by omega, rfl, hlt, p'⟩, fun x H' y => hs j x H H' hlt p (w.yields j H x H' hlt q y)⟩
  · have e : j = n1 := by omega
    subst e
    exact .inl ⟨w.stops H q, hd H p⟩
end
end L2
/-! Null columns over one bottom, and sums of such with small factors. -/
namespace Lin
open Lean.Grind St
section
variable {f : Int} {D : Fd f}
theorem null_htc {w m : Nat} {A : List (Ll D.F)} (hC : letI := D.fld; HtC D m (rowsOf (vecs A))) (hA : ∀ d ∈ A, d.1 < w) (hd : A.Pairwise (fun a b => a.1 ≠ b.1)) {ps : List Nat} (hps : ∀ p ∈ ps, p < w ∧ ∀ d ∈ A, d.1 ≠ p) : letI := D.fld; letI := D.dec; HtC D m (ps.map fun p => vec (nullL w p A)) := by
  letI := D.fld
  letI := D.dec
  obtain ⟨d, d0, d1, d2⟩ := hC
  have hm : ∀ e ∈ A, vec e.2 ∈ rowsOf (vecs A) := fun e he => List.mem_map_of_mem (f := fun x : Lr D.F => x.2) (List.mem_map_of_mem (f := fun a : Ll D.F => (a.1, vec a.2)) he)
  refine ⟨d, d0, d1, fun r hr => ?_⟩
  obtain ⟨p, hpm, rfl⟩ := List.mem_map.mp hr
  obtain ⟨hp, hs⟩ := hps p hpm
  have ex : ∀ j, ∃ z : Int, z.natAbs < 2 ^ m ∧ vec (nullL w p A) j = D.ofI z * (D.ofI d)⁻¹ := fun j => by
    by_cases h : ∃ e ∈ A, e.1 = j
    · obtain ⟨e, he, rfl⟩ := h
      obtain ⟨z, hz⟩ := d2 _ (hm e he)
      refine ⟨-(z p), by rw [Int.natAbs_neg]; exact (hz p).1, ?_⟩
      rw [nullL_lead hA hd he, (hz p).2, ofI_neg]
      generalize D.ofI d = A at *
      generalize D.ofI (z p) = B at *
      grind
    · have hj : ∀ e ∈ A, e.1 ≠ j := fun e he z => h ⟨e, he, z⟩
      rw [nullL_other hp hA hj]
      by_cases e : p = j
      · rw [if_pos e]
        refine ⟨d, d1, ?_⟩
        generalize D.ofI d = A at *
        grind
      · rw [if_neg e]
        refine ⟨0, Nat.two_pow_pos _, ?_⟩
        rw [ofI_zero]
        grind
  exact ⟨fun j => (ex j).choose, fun j => (ex j).choose_spec⟩
theorem sumS_ht (hf : IsF f) {m : Nat} {rs : List (Vec D.F)} (hC : HtC D m rs) {B : Nat → Vec D.F} {c : Nat → D.F} {sp : List Nat} (hB : ∀ s ∈ sp, B s ∈ rs) (hc : ∀ s ∈ sp, Sz D 7 (c s)) : letI := D.fld; Ht D (m + 8 * sp.length) (fun j => sumS (fun s => B s j * c s) sp) := by
  letI := D.fld
  obtain ⟨d, d0, d1, d2⟩ := hC
  have key : ∀ {sp : List Nat}, (∀ s ∈ sp, B s ∈ rs) → (∀ s ∈ sp, Sz D 7 (c s)) → ∃ (b : Int) (z : Nat → Int), D.ofI b ≠ 0 ∧ b.natAbs ≤ 2 ^ (8 * sp.length) ∧ ∀ j, (z j).natAbs < 2 ^ (m + 8 * sp.length) ∧ sumS (fun s => B s j * c s) sp = D.ofI (z j) * (D.ofI (d * b))⁻¹ := by
    intro sp
    induction sp with
    | nil =>
      intro _ _
      refine ⟨1, fun _ => 0, by rw [D.ofI_one]; exact one_ne, (by show 1 ≤ 2 ^ (8 * 0); decide), fun j => ⟨Nat.two_pow_pos _, ?_⟩⟩
      rw [ofI_zero]
      show (0 : D.F) = _
      grind
    | cons s l ih =>
      intro hB hc
      obtain ⟨b, z, b0, b1, hz⟩ := ih (fun x hx => hB x (List.mem_cons_of_mem _ hx)) fun x hx => hc x (List.mem_cons_of_mem _ hx)
      obtain ⟨y, hy⟩ := d2 _ (hB s (List.mem_cons_self ..))
      obtain ⟨s1, s2⟩ := hc s (List.mem_cons_self ..)
      obtain ⟨t0, te⟩ := num_div (D := D) hf (c s)
      generalize (D.enc (c s)).1 = t at *
      generalize (D.enc (c s)).2 = u at *
      have hp : (2 : Nat) ^ (8 * (l.length + 1)) = 2 ^ (8 * l.length) * 256 := by rw [Nat.mul_succ, Nat.pow_add]
      have hq : (2 : Nat) ^ (m + 8 * (l.length + 1)) = 2 ^ (m + 8 * l.length) * 256 := by rw [Nat.mul_succ, ← Nat.add_assoc, Nat.pow_add]
      refine ⟨b * u, fun j => y j * (t * b) + z j * u, ?_, ?_, fun j => ⟨?_, ?_⟩⟩
      · rw [D.ofI_mul]
        generalize D.ofI b = X at *
        generalize D.ofI u = Y at *
        grind
      · rw [Int.natAbs_mul, List.length_cons, hp]
        have := Nat.mul_le_mul b1 (Nat.le_of_lt s2)
        omega
      · show (y j * (t * b) + z j * u).natAbs < 2 ^ (m + 8 * (l.length + 1))
        rw [hq]
        have h3 := Int.natAbs_add_le (y j * (t * b)) (z j * u)
        rw [Int.natAbs_mul, Int.natAbs_mul, Int.natAbs_mul] at h3
        have e1 : t.natAbs * b.natAbs ≤ 128 * 2 ^ (8 * l.length) := Nat.mul_le_mul (Nat.le_of_lt s1) b1
        have e2 : (y j).natAbs * (t.natAbs * b.natAbs) ≤ 2 ^ m * (128 * 2 ^ (8 * l.length)) := Nat.mul_le_mul (Nat.le_of_lt (hy j).1) e1
        have e3 : 2 ^ m * (128 * 2 ^ (8 * l.length)) = 2 ^ (m + 8 * l.length) * 128 := by rw [Nat.pow_add, Nat.mul_comm 128, Nat.mul_assoc]
        have e4 : (z j).natAbs * u.natAbs < 2 ^ (m + 8 * l.length) * 128 := Nat.mul_lt_mul'' (hz j).1 s2
        omega
      · show B s j * c s + sumS (fun s => B s j * c s) l = D.ofI (y j * (t * b) + z j * u) * (D.ofI (d * (b * u)))⁻¹
        rw [(hz j).2, (hy j).2, te, D.ofI_add, D.ofI_mul, D.ofI_mul, D.ofI_mul, D.ofI_mul, D.ofI_mul, D.ofI_mul]
        generalize D.ofI d = A at *
        generalize D.ofI b = X at *
        generalize D.ofI u = Y at *
        generalize D.ofI t = Z at *
        generalize D.ofI (y j) = U at *
        generalize D.ofI (z j) = V at *
        grind
  obtain ⟨b, z, b0, b1, hz⟩ := key hB hc
  refine ⟨d * b, z, ?_, ?_, hz⟩
  · rw [D.ofI_mul]
    generalize D.ofI d = A at *
    generalize D.ofI b = X at *
    grind
  · rw [Int.natAbs_mul, Nat.pow_add]
    exact Nat.lt_of_le_of_lt (Nat.mul_le_mul_left _ b1) (Nat.mul_lt_mul_of_pos_right d1 (Nat.two_pow_pos _))
end
end Lin
/-! So many spots as places that lead not. -/
namespace Lin
theorem lead_cnt {F : Type} (k : Nat) : ∀ {A : List (Ll F)}, A.Pairwise (fun a b => a.1 ≠ b.1) → (A.filter fun d => decide (d.1 < k + 1)).length = (A.filter fun d => decide (d.1 < k)).length + if (A.any fun d => d.1 == k) = true then 1 else 0
  | [], _ => rfl
  | d :: A, h => by
    obtain ⟨h1, h2⟩ := List.pairwise_cons.mp h
    have ih := lead_cnt k h2
    rcases Nat.lt_trichotomy d.1 k with c | c | c
    · rw [List.filter_cons_of_pos (by rw [decide_eq_true_eq]; omega), List.filter_cons_of_pos (by rw [decide_eq_true_eq]; omega), List.any_cons, beq_false_of_ne (Nat.ne_of_lt c), Bool.false_or, List.length_cons, List.length_cons, ih]
      omega
    · have no : (A.any fun d => d.1 == k) = false := by
        rw [List.any_eq_false]
        intro b hb e
        exact h1 b hb (c.trans (eq_of_beq e).symm)
      rw [no] at ih
      rw [List.filter_cons_of_pos (by rw [decide_eq_true_eq]; omega), List.filter_cons_of_neg (by rw [decide_eq_true_eq]; omega), List.any_cons, no, c, beq_self_eq_true, List.length_cons, ih]
      rfl
    · rw [List.filter_cons_of_neg (by rw [decide_eq_true_eq]; omega), List.filter_cons_of_neg (by rw [decide_eq_true_eq]; omega), List.any_cons, beq_false_of_ne (by omega), Bool.false_or, ih]
theorem spots_below {F : Type} [Lean.Grind.Field F] [DecidableEq F] {A : List (Ll F)} (h : A.Pairwise (fun a b => a.1 ≠ b.1)) : ∀ k, (spotsL k A).length + (A.filter fun d => decide (d.1 < k)).length = k
  | 0 => by
    have e : (A.filter fun d => decide (d.1 < 0)) = [] := List.filter_eq_nil_iff.mpr fun d _ => by
      rw [decide_eq_true_eq]
      omega
    rw [e]
    rfl
  | k + 1 => by
    have ih := spots_below h k
    rw [spotsL_succ, lead_cnt k h]
    split
    · omega
    · rw [List.length_append]
      show _ + 1 + (_ + 0) = _
      omega
/-- so many spots as places that lead not -/
theorem spots_count {F : Type} [Lean.Grind.Field F] [DecidableEq F] {A : List (Ll F)} {w : Nat} (h : A.Pairwise (fun a b => a.1 ≠ b.1)) (hw : ∀ d ∈ A, d.1 < w) : (spotsL w A).length + A.length = w := by
  have h1 := spots_below h w
  rw [List.filter_eq_self.mpr fun d hd => decide_eq_true (hw d hd)] at h1
  exact h1
end Lin
/-! Whole rows by a prime and over fractions: the rank by the prime is no greater; what is led to nought over fractions is so by the prime. -/
namespace Lin
open Lean.Grind St
section
variable {p : Int} {D0 : Fd 0} {Dp : Fd p}
def vecI (l : List Int) : Nat → Int := fun j => l.getD j 0
def rowE {f : Int} (D : Fd f) (l : List Int) : List D.F := l.map D.ofI
theorem vec_rowE {f : Int} {D : Fd f} (l : List Int) (j : Nat) : letI := D.fld; vec (rowE D l) j = D.ofI (vecI l j) := by
  letI := D.fld
  unfold vec vecI rowE
  rw [List.getD_eq_getElem?_getD, List.getD_eq_getElem?_getD, List.getElem?_map]
  cases l[j]? with
  | none => exact ofI_zero.symm
  | some x => rfl
theorem ofI_all (hf : IsF p) (p0 : p ≠ 0) (c : Dp.F) : ∃ t : Int, Dp.ofI t = c := by
  letI := Dp.fld
  obtain ⟨_, e⟩ := num_div (D := Dp) hf c
  refine ⟨(Dp.enc c).1, ?_⟩
  rcases Dp.num c with ⟨h, _⟩ | ⟨_, h, _⟩
  · exact absurd h p0
  · rw [h, Dp.ofI_one] at e
    conv => rhs; rw [e]
    generalize Dp.ofI (Dp.enc c).1 = A
    grind
theorem lift_row (hf : IsF p) (p0 : p ≠ 0) {Z : List (List Int)} {v : Vec Dp.F} (h : letI := Dp.fld; Sp (Z.map fun l => vec (rowE Dp l)) v) : letI := D0.fld; ∃ u : Nat → Int, (∀ j, Dp.ofI (u j) = v j) ∧ Sp (Z.map fun l => vec (rowE D0 l)) (fun j => D0.ofI (u j)) := by
  letI := Dp.fld
  letI := D0.fld
  induction h with
  | zero => exact ⟨fun _ => 0, fun j => ofI_zero, Sp.zero.cast fun j => ofI_zero.symm⟩
  | step c h _ ih =>
    obtain ⟨u, hu, hs⟩ := ih
    obtain ⟨l, hl, rfl⟩ := List.mem_map.mp h
    obtain ⟨t, ht⟩ := ofI_all hf p0 c
    refine ⟨fun j => u j + t * vecI l j, fun j => ?_, (hs.lin (D0.ofI t) (.gen (List.mem_map_of_mem (f := fun l => vec (rowE D0 l)) hl))).cast fun j => ?_⟩
    · show Dp.ofI (u j + t * vecI l j) = _ + c * vec (rowE Dp l) j
      rw [Dp.ofI_add, Dp.ofI_mul, hu, ht, vec_rowE]
    · show _ = D0.ofI (u j + t * vecI l j)
      rw [D0.ofI_add, D0.ofI_mul, vec_rowE]
def sumZ (g : Nat → Int) : Nat → Int
  | 0 => 0
  | k + 1 => sumZ g k + g k
theorem ofI_sumZ {f : Int} {D : Fd f} (g : Nat → Int) : ∀ k, letI := D.fld; D.ofI (sumZ g k) = sumV (fun i => D.ofI (g i)) k
  | 0 => ofI_zero
  | k + 1 => by
    letI := D.fld
    have ih := ofI_sumZ (D := D) g k
    show D.ofI (sumZ g k + g k) = sumV (fun i => D.ofI (g i)) k + D.ofI (g k)
    rw [D.ofI_add, ih]
theorem sumV_congr {F : Type} [Field F] {g h : Nat → F} : ∀ {k : Nat}, (∀ i, i < k → g i = h i) → sumV g k = sumV h k
  | 0, _ => rfl
  | k + 1, e => by
    have ih := sumV_congr (k := k) fun i hi => e i (by omega)
    show sumV g k + g k = sumV h k + h k
    rw [ih, e k (by omega)]
theorem sumV_mulr {F : Type} [Field F] (g : Nat → F) (a : F) : ∀ k : Nat, sumV (fun i => g i * a) k = sumV g k * a
  | 0 => by
    show (0 : F) = 0 * a
    grind
  | k + 1 => by
    have ih := sumV_mulr g a k
    show sumV (fun i => g i * a) k + g k * a = (sumV g k + g k) * a
    rw [ih]
    generalize sumV g k = A
    grind
theorem sumZ_mul (g : Nat → Int) (a : Int) : ∀ k : Nat, sumZ (fun i => a * g i) k = a * sumZ g k
  | 0 => by
    show (0 : Int) = a * 0
    omega
  | k + 1 => by
    have ih := sumZ_mul g a k
    show sumZ (fun i => a * g i) k + a * g k = a * (sumZ g k + g k)
    rw [ih, Int.mul_add]
theorem sumZ_congr {g h : Nat → Int} : ∀ {k : Nat}, (∀ i, i < k → g i = h i) → sumZ g k = sumZ h k
  | 0, _ => rfl
  | k + 1, e => by
    have ih := sumZ_congr (k := k) fun i hi => e i (by omega)
    show sumZ g k + g k = sumZ h k + h k
    rw [ih, e k (by omega)]
/-- numbers over one bottom -/
theorem one_bottom {f : Int} {D : Fd f} (hf : IsF f) : ∀ l : List D.F, letI := D.fld; ∃ (e : Int) (z : Nat → Int), D.ofI e ≠ 0 ∧ ∀ j, vec l j = D.ofI (z j) * (D.ofI e)⁻¹
  | [] => by
    letI := D.fld
    refine ⟨1, fun _ => 0, by rw [D.ofI_one]; exact one_ne, fun j => ?_⟩
    rw [ofI_zero]
    show (0 : D.F) = _
    grind
  | x :: l => by
    letI := D.fld
    obtain ⟨e, z, e0, hz⟩ := one_bottom hf l
    obtain ⟨b0, ex⟩ := num_div (D := D) hf x
    generalize (D.enc x).1 = t at *
    generalize (D.enc x).2 = b at *
    refine ⟨e * b, fun j => match j with | 0 => e * t | j + 1 => z j * b, ?_, fun j => ?_⟩
    · rw [D.ofI_mul]
      generalize D.ofI e = A at *
      generalize D.ofI b = B at *
      grind
    · cases j with
      | zero =>
        show x = D.ofI (e * t) * (D.ofI (e * b))⁻¹
        rw [D.ofI_mul, D.ofI_mul]
        generalize D.ofI e = A at *
        generalize D.ofI b = B at *
        generalize D.ofI t = C at *
        grind
      | succ j =>
        show vec l j = D.ofI (z j * b) * (D.ofI (e * b))⁻¹
        rw [D.ofI_mul, D.ofI_mul, hz j]
        generalize D.ofI e = A at *
        generalize D.ofI b = B at *
        generalize D.ofI (z j) = C at *
        grind
theorem sumV_pick {F : Type} [Field F] {g : Nat → F} {l k : Nat} (hl : l < k) (h : ∀ i, i < k → i ≠ l → g i = 0) : sumV g k = g l := by
  induction k with
  | zero => omega
  | succ k ih =>
    show sumV g k + g k = g l
    by_cases e : l = k
    · subst e
      have z : sumV g l = 0 := by
        have key : ∀ m, m ≤ l → sumV g m = 0 := fun m => by
          induction m with
          | zero => intro _; rfl
          | succ m ihm =>
            intro hm
            show sumV g m + g m = 0
            rw [ihm (by omega), h m (by omega) (by omega)]
            grind
        exact key l (Nat.le_refl _)
      rw [z]
      grind
    · rw [ih (by omega) (fun i hi ne => h i (by omega) ne), h k (by omega) (by omega)]
      grind
theorem sp_sum {F : Type} [Field F] {rs : List (Vec F)} {U : Nat → Vec F} {c : Nat → F} : ∀ {k : Nat}, (∀ i, i < k → Sp rs (U i)) → Sp rs (fun j => sumV (fun i => U i j * c i) k)
  | 0, _ => .zero
  | k + 1, h => by
    have ih := sp_sum (c := c) (k := k) fun i hi => h i (by omega)
    refine (ih.lin (c k) (h k (by omega))).cast fun j => ?_
    show _ = sumV (fun i => U i j * c i) k + U k j * c k
    generalize sumV (fun i => U i j * c i) k = A
    grind
theorem no_relation (hf : IsF p) (p0 : p ≠ 0) {k : Nat} {U : Nat → Nat → Int} {q : Nat → Nat} (hU : letI := Dp.fld; ∀ i l, i < k → l < k → Dp.ofI (U i (q l)) = if i = l then 1 else 0) {s : Nat} (hs : s < k) : ∀ (n : Nat) (z : Nat → Int), (z s).natAbs ≤ n → z s ≠ 0 → (∀ j, sumZ (fun i => U i j * z i) k = 0) → False := by
  letI := Dp.fld
  have p2 : 2 ≤ p := by
    rcases hf with h | ⟨m, hm, rfl⟩
    · exact absurd h p0
    · have := prime_big m hm
      omega
  intro n
  induction n with
  | zero => intro z h0 h1 _; omega
  | succ n ih =>
    intro z hn h1 hz
    have dv : ∀ l, l < k → p ∣ z l := fun l hl => by
      have e := congrArg Dp.ofI (hz (q l))
      rw [ofI_sumZ, ofI_zero] at e
      rw [sumV_pick hl fun i hi ne => by
        rw [Dp.ofI_mul, hU i l hi hl, if_neg ne]
        grind] at e
      rw [Dp.ofI_mul, hU l l hl hl, if_pos rfl] at e
      have e2 : Dp.ofI (z l) = 0 := by grind
      have e3 := (Dp.ofI0 _).mp e2
      rw [if_neg p0] at e3
      exact Int.dvd_of_emod_eq_zero e3
    refine ih (fun i => z i / p) ?_ ?_ fun j => ?_
    · obtain ⟨y, hy⟩ := dv s hs
      show (z s / p).natAbs ≤ n
      rw [hy, Int.mul_ediv_cancel_left _ p0]
      rw [hy, Int.natAbs_mul] at hn
      have : y.natAbs ≠ 0 := fun e => h1 (by rw [hy, Int.natAbs_eq_zero.mp e, Int.mul_zero])
      have h2 : 2 ≤ p.natAbs := by omega
      have := Nat.mul_le_mul_right y.natAbs h2
      omega
    · obtain ⟨y, hy⟩ := dv s hs
      show z s / p ≠ 0
      rw [hy, Int.mul_ediv_cancel_left _ p0]
      intro e
      exact h1 (by rw [hy, e, Int.mul_zero])
    · have e : sumZ (fun i => U i j * z i) k = p * sumZ (fun i => U i j * (z i / p)) k := by
        rw [← sumZ_mul]
        refine sumZ_congr fun i hi => ?_
        obtain ⟨y, hy⟩ := dv i hi
        rw [hy, Int.mul_ediv_cancel_left _ p0, Int.mul_left_comm]
      rw [hz j] at e
      rcases Int.mul_eq_zero.mp e.symm with h | h
      · exact absurd h p0
      · exact h
/-- the rank by a prime is no greater -/
theorem rank_le (hf : IsF p) (p0 : p ≠ 0) {w : Nat} {Z : List (List Int)} (hw : ∀ l ∈ Z, l.length = w) : letI := Dp.fld; letI := Dp.dec; letI := D0.fld; letI := D0.dec; (redL w (Z.map (rowE Dp))).length ≤ (redL w (Z.map (rowE D0))).length := by
  letI := Dp.fld
  letI := Dp.dec
  letI := D0.fld
  letI := D0.dec
  have wp : ∀ l ∈ Z.map (rowE Dp), l.length = w := fun l hl => by
    obtain ⟨x, hx, rfl⟩ := List.mem_map.mp hl
    exact (List.length_map ..).trans (hw x hx)
  have w0 : ∀ l ∈ Z.map (rowE D0), l.length = w := fun l hl => by
    obtain ⟨x, hx, rfl⟩ := List.mem_map.mp hl
    exact (List.length_map ..).trans (hw x hx)
  have RA := (redL_ok wp).1
  have RR := (redL_ok w0).1
  generalize redL w (Z.map (rowE Dp)) = A at *
  generalize redL w (Z.map (rowE D0)) = R at *
  refine Nat.le_of_not_lt fun hlt => ?_
  have lifts : ∀ i, ∃ u : Nat → Int, i < A.length → (∀ j, Dp.ofI (u j) = vec (A.getD i (0, [])).2 j) ∧ Sp (rowsOf (vecs R)) (fun j => D0.ofI (u j)) := fun i => by
    by_cases hi : i < A.length
    · have em : A.getD i (0, []) ∈ A := by
        rw [List.getD_eq_getElem?_getD, List.getElem?_eq_getElem hi]
        exact List.getElem_mem hi
      have h1 := RA.of _ em
      have h2 : Sp (Z.map fun l => vec (rowE Dp l)) (vec (A.getD i (0, [])).2) := by
        have e : sps (Z.map (rowE Dp)) = Z.map fun l => vec (rowE Dp l) := by
          show (Z.map (rowE Dp)).map vec = _
          rw [List.map_map]
          rfl
        rw [← e]
        exact h1
      obtain ⟨u, hu, hs⟩ := lift_row (D0 := D0) hf p0 h2
      refine ⟨u, fun _ => ⟨hu, hs.trans fun r hr => ?_⟩⟩
      obtain ⟨l, hl, rfl⟩ := List.mem_map.mp hr
      exact RR.into _ (List.mem_map_of_mem (f := rowE D0) hl)
    · exact ⟨fun _ => 0, fun h => absurd h hi⟩
  have hU : ∀ i, i < A.length → (∀ j, Dp.ofI ((lifts i).choose j) = vec (A.getD i (0, [])).2 j) ∧ Sp (rowsOf (vecs R)) (fun j => D0.ofI ((lifts i).choose j)) := fun i => (lifts i).choose_spec
  obtain ⟨U, hU⟩ : ∃ U : Nat → Nat → Int, ∀ i, i < A.length → (∀ j, Dp.ofI (U i j) = vec (A.getD i (0, [])).2 j) ∧ Sp (rowsOf (vecs R)) (fun j => D0.ofI (U i j)) := ⟨fun i => (lifts i).choose, hU⟩
  have lM : ∀ l ∈ R.map (fun d => (List.range A.length).map fun i => D0.ofI (U i d.1)), l.length = A.length := fun l hl => by
    obtain ⟨d, _, rfl⟩ := List.mem_map.mp hl
    rw [List.length_map, List.length_range]
  obtain ⟨RM, eM⟩ := redL_ok lM
  have leadM : ∀ d ∈ redL A.length (R.map (fun d => (List.range A.length).map fun i => D0.ofI (U i d.1))), d.1 < A.length := fun d hd => by
    have h : d.1 ∈ (redL A.length (R.map (fun d => (List.range A.length).map fun i => D0.ofI (U i d.1)))).map (·.1) := List.mem_map_of_mem hd
    rw [eM] at h
    obtain ⟨b, hb, z⟩ := List.mem_map.mp h
    rw [← z]
    exact ((steps_ok _ 0 _ (Nat.zero_add _) (left_start lM)).2.1 b hb).2.1
  have cM : (redL A.length (R.map (fun d => (List.range A.length).map fun i => D0.ofI (U i d.1)))).length ≤ R.length := by
    have h1 := congrArg List.length eM
    rw [List.length_map, List.length_map] at h1
    have h2 := (steps_ok _ 0 _ (Nat.zero_add _) (left_start lM)).2.2.2.2
    rw [List.length_map] at h2
    omega
  have dM : (redL A.length (R.map (fun d => (List.range A.length).map fun i => D0.ofI (U i d.1)))).Pairwise (fun a b => a.1 ≠ b.1) := by
    have h := RM.red.toU.dist
    rw [List.pairwise_map] at h
    exact h
  generalize redL A.length (R.map (fun d => (List.range A.length).map fun i => D0.ofI (U i d.1))) = M at *
  have hsp := spots_count dM leadM
  obtain ⟨s, hs⟩ : ∃ s, s ∈ spotsL A.length M := by
    cases h : spotsL A.length M with
    | nil =>
      rw [h] at hsp
      have : ([] : List Nat).length = 0 := rfl
      omega
    | cons a _ => exact ⟨a, List.mem_cons_self ..⟩
  obtain ⟨hsA, hsn⟩ := spots_at.mp hs
  have hc1 : vec (nullL A.length s M) s = 1 := by
    rw [nullL_other hsA leadM hsn, if_pos rfl]
  have hc0 : ∀ d ∈ R, sumV (fun i => D0.ofI (U i d.1) * vec (nullL A.length s M) i) A.length = 0 := fun d hd => by
    have h := null_dot RM leadM hsA hsn (List.mem_map_of_mem (f := fun d : Ll D0.F => (List.range A.length).map fun i => D0.ofI (U i d.1)) hd)
    rw [dotN_sum] at h
    rw [← h]
    refine sumV_congr fun i hi => ?_
    have e : vec ((List.range A.length).map fun i => D0.ofI (U i d.1)) i = D0.ofI (U i d.1) := by
      unfold vec
      rw [List.getD_eq_getElem?_getD, List.getElem?_map, List.getElem?_range hi]
      rfl
    rw [e]
  generalize nullL A.length s M = c at *
  -- the sum is nought at all leads, and so everywhere
  have hv : ∀ j, sumV (fun i => D0.ofI (U i j) * vec c i) A.length = 0 := fun j => by
    have hsp : Sp (rowsOf (vecs R)) (fun j => sumV (fun i => D0.ofI (U i j) * vec c i) A.length) := sp_sum (U := fun i j => D0.ofI (U i j)) fun i hi => (hU i hi).2
    rw [← RR.red.sum hsp j]
    refine sumL_none fun a ha => ?_
    obtain ⟨d, hd, rfl⟩ := List.mem_map.mp ha
    have e := hc0 d hd
    show sumV (fun i => D0.ofI (U i d.1) * vec c i) A.length * _ = 0
    rw [e]
    grind
  obtain ⟨e, z, e0, hz⟩ := one_bottom (D := D0) (.inl rfl) c
  have hzs : z s ≠ 0 := fun h => by
    have h1 := hz s
    rw [hc1, h, ofI_zero] at h1
    exact one_ne (F := D0.F) (by grind)
  have hZ : ∀ j, sumZ (fun i => U i j * z i) A.length = 0 := fun j => by
    have h1 : D0.ofI (sumZ (fun i => U i j * z i) A.length) = 0 := by
      rw [ofI_sumZ]
      have h2 : sumV (fun i => D0.ofI (U i j * z i)) A.length = sumV (fun i => D0.ofI (U i j) * vec c i * D0.ofI e) A.length := sumV_congr fun i _ => by
        rw [D0.ofI_mul, hz i]
        generalize D0.ofI e = X at *
        generalize D0.ofI (z i) = Y at *
        generalize D0.ofI (U i j) = W at *
        grind
      rw [h2, sumV_mulr, hv j]
      grind
    have h3 := (D0.ofI0 _).mp h1
    rw [if_pos rfl] at h3
    exact h3
  refine no_relation (Dp := Dp) hf p0 (k := A.length) (U := U) (q := fun l => (A.getD l (0, [])).1) (fun i l hi hl => ?_) hsA _ z (Nat.le_refl _) hzs hZ
  rw [(hU i hi).1]
  have mi : A.getD i (0, []) ∈ A := by
    rw [List.getD_eq_getElem?_getD, List.getElem?_eq_getElem hi]
    exact List.getElem_mem hi
  have ml : A.getD l (0, []) ∈ A := by
    rw [List.getD_eq_getElem?_getD, List.getElem?_eq_getElem hl]
    exact List.getElem_mem hl
  have vi : ((A.getD i (0, [])).1, vec (A.getD i (0, [])).2) ∈ vecs A := List.mem_map_of_mem (f := fun a : Ll Dp.F => (a.1, vec a.2)) mi
  have vl : ((A.getD l (0, [])).1, vec (A.getD l (0, [])).2) ∈ vecs A := List.mem_map_of_mem (f := fun a : Ll Dp.F => (a.1, vec a.2)) ml
  by_cases h : i = l
  · subst h
    rw [if_pos rfl]
    exact RA.red.one _ vi
  · rw [if_neg h]
    refine RA.red.alone _ vi _ vl ?_
    have hd := RA.red.toU.dist
    rw [List.pairwise_map] at hd
    have hp := List.pairwise_iff_getElem.mp hd
    have gi : A.getD i (0, []) = A[i] := by rw [List.getD_eq_getElem?_getD, List.getElem?_eq_getElem hi]; rfl
    have gl : A.getD l (0, []) = A[l] := by rw [List.getD_eq_getElem?_getD, List.getElem?_eq_getElem hl]; rfl
    rw [gi, gl]
    rcases Nat.lt_or_gt_of_ne h with c | c
    · exact hp i l hi hl c
    · exact fun e => hp l i hl hi c e.symm
/-- what is led to nought over fractions is so by the prime, taken whole -/
theorem whole_mod {w : Nat} {r : List Int} {l : List D0.F} {m : List Dp.F} {part : Int} {y : Nat → Int} (h0 : letI := D0.fld; letI := D0.dec; dotN (rowE D0 r) l w = 0) (hy : letI := D0.fld; ∀ j, j < w → D0.ofI (y j) = vec l j * D0.ofI part) (hm : letI := Dp.fld; ∀ j, j < w → vec m j = Dp.ofI (y j)) :
    letI := Dp.fld; letI := Dp.dec; dotN (rowE Dp r) m w = 0 := by
  letI := Dp.fld
  letI := Dp.dec
  letI := D0.fld
  letI := D0.dec
  rw [dotN_sum] at h0 ⊢
  have e0 : sumZ (fun j => vecI r j * y j) w = 0 := by
    have h1 : D0.ofI (sumZ (fun j => vecI r j * y j) w) = 0 := by
      rw [ofI_sumZ]
      have h2 : sumV (fun j => D0.ofI (vecI r j * y j)) w = sumV (fun j => vec (rowE D0 r) j * vec l j * D0.ofI part) w := sumV_congr fun j hj => by
        rw [D0.ofI_mul, hy j hj, vec_rowE]
        generalize D0.ofI part = A
        grind
      rw [h2, sumV_mulr, h0]
      grind
    have h3 := (D0.ofI0 _).mp h1
    rw [if_pos rfl] at h3
    exact h3
  have h4 := congrArg Dp.ofI e0
  rw [ofI_sumZ, ofI_zero] at h4
  rw [← h4]
  refine sumV_congr fun j hj => ?_
  rw [Dp.ofI_mul, hm j hj, vec_rowE]
end
end Lin
/-! enumerate of one thing, a list or a tuple. -/
namespace ZM
open PySem PySem.Spec PyProof.Rows L2
section
open PySem.Sem (wp)
theorem meets_enum1 {v : Value} {o : Obj} {H : Heap → Prop} (B : Begins v o H) :
    Meets (Builtin.«enumerate.__new__» ⟨[.type "enumerate", v], []⟩) (fun _ R s => H s.heap ∧
      R (.ok (.ret (.ref (s.heap.push o).objs.size))) { s with heap := (s.heap.push o).push { cls := .type "enumerate", data := .fields #[.none, .bool false, .ref s.heap.objs.size, rawInt 0, .none, .none] } }) :=
  .of_wp fun prog w A R s h => by
    obtain ⟨hp, g, d, tk, os⟩ := s; obtain ⟨h1, h⟩ := h
    have hsub := sub_enumerate
    have q1 : ∀ {A' : Around} {E : Value → Shared → Prop} {Q : Value → Shared → Prop}, Q (.ref hp.objs.size) ⟨hp.push o, g, d, tk, os⟩ → wpAny (model prog w) A' (pyIter v) Q E ⟨hp, g, d, tk, os⟩ :=
      fun q => B.iter prog w _ _ ⟨hp, g, d, tk, os⟩ _ h1 q
    wp_walk using q1
    refine wpAny_stack_any fun st => wpAny_pure ?_
    split
    · rename_i c _ _ _ _ _
      cases (c == Value.type "enumerate")
      · wp_walk using q1
        exact ⟨_, rfl, h⟩
      · wp_walk using q1
        exact ⟨_, rfl, h⟩
    · wp_walk using q1
      exact ⟨_, rfl, h⟩
theorem enum_begins1 {prog : Program} {w : World} {A : Around} {E : Value → Shared → Prop} {s : Shared} {v : Value} {o : Obj} {H : Heap → Prop} {Q : Value → Shared → Prop} (B : Begins v o H) (h1 : H s.heap)
    (h : ∀ h', IsEnum h' (s.heap.objs.size + 1) s.heap.objs.size 0 .none → h'.get? s.heap.objs.size = some o → h'.objs.size = s.heap.objs.size + 2 →
      (∀ b o, s.heap.get? b = some o → h'.get? b = some o) → Q (.ref (s.heap.objs.size + 1)) { s with heap := h' }) :
    wpAny (model prog w) A (call (.type "enumerate") [v]) Q E s := by
  refine callType_new F.called_enumerate (by decide) (F.typeCall_enumerate_1 _) (F.newCall_enumerate_1 _) (fun obj => F.args_object_init_2 obj _) F.entry_enumerate_new
    (meets_enum1 B) ⟨h1, ?_⟩
  have hz : (s.heap.push o).objs.size = s.heap.objs.size + 1 := Heap.size_push ..
  show _ ∧ _
  rw [hz]
  have he : IsEnum ((s.heap.push o).push { cls := .type "enumerate", data := .fields #[.none, .bool false, .ref s.heap.objs.size, rawInt 0, .none, .none] }) (s.heap.objs.size + 1) s.heap.objs.size 0 .none := by
    have := Heap.get?_push_size (s.heap.push o) (o := { cls := .type "enumerate", data := .fields #[.none, .bool false, .ref s.heap.objs.size, rawInt 0, .none, .none] }) rfl
    rw [hz] at this; exact this
  refine ⟨⟨_, he, rfl⟩, h _ he (Heap.get?_push_of_some _ (Heap.get?_push_size _ B.free)) (by rw [Heap.size_push, hz]) fun b o x => Heap.get?_push_of_some _ (Heap.get?_push_of_some _ x)⟩
end
/-- the one as it stands at each turn, each item in a new pair -/
def ItE (K : PySem.W.Frag) (t : Bool) (a : Addr) : It :=
  ⟨fun i H => ∃ (xs : List V), Sq t K H a xs ∧ i < xs.length, fun i H v H' => ∃ T x, v = .ref T ∧ H T = none ∧ H' = upd H T (.tup [.int (i : Nat), x]) ∧ ∀ xs, Sq t K H a xs → xs[i]? = some x, fun i H => ∃ xs : List V, Sq t K H a xs ∧ i = xs.length⟩
theorem turnE {P : Program} {w : World} {K : PySem.W.Frag} {elts : List Expr} {kk : Nat} {tpos : Pos} {t : Bool} {a e it : Addr} (n1 : a ≠ it) (hei : e ≠ it) (hea : e ≠ a) :
    Turn P w K (.Tuple elts kk tpos) (ItE K t a) [e, it] e (fun i h => (∃ old, IsEnum h e it (0 + (i : Int)) old) ∧ At t h it a i) where
  mem := by simp
  obj := fun i h st c hc => by
    obtain ⟨⟨old, k0⟩, k1⟩ := st
    have e' : c = e ∨ c = it := by simpa using hc
    rcases e' with rfl | rfl
    · exact ⟨_, k0, fun v q => nomatch q⟩
    · exact at_obj k1
  keep := fun i h h' st k => by
    obtain ⟨⟨old, k0⟩, k1⟩ := st
    exact ⟨⟨old, k e (by simp) _ k0⟩, at_keep k1 fun o q => k it (by simp) o q⟩
  item := by
    intro X eP ew eK hc i pins s σ H E I hf st hg
    subst eP ew eK
    obtain ⟨k0, k1⟩ := st
    obtain ⟨xs, qx, hi⟩ := hg
    obtain ⟨its, rv, p, _⟩ := stands I qx
    have l1 := rv.length
    have hh : X.A.in1.handled = none := I.ok.hd hc
    have G := GoesN.enumFrom (A := X.A) (elts := elts) (x1 := kk) (pos := tpos) 0 (draws (P := X.prog) (w := X.w) (A := X.A.in1) t hh it a n1 its.toArray) e hei (by simp [hei, hea]) (by simp)
    have inH : ∀ c ∈ [e, it], c < s.heap.objs.size := fun c hcm => by
      have e' : c = e ∨ c = it := by simpa using hcm
      rcases e' with rfl | rfl
      · obtain ⟨_, k0⟩ := k0
        exact Heap.lt_size k0
      · obtain ⟨_, ee, _⟩ := at_obj k1
        exact Heap.lt_size ee
    refine G.goes i s _ E (by simp only [List.size_toArray]; omega) ⟨k0, k1, p⟩ fun v h' tk hY st' hk htk => ?_
    obtain ⟨T, tt, x, rfl, hT, hx, ⟨o, ho, hoc, m, hod⟩⟩ := hY
    obtain ⟨j0, j1, _⟩ := st'
    have vx : xs[i]? = some xs[i] := List.getElem?_eq_getElem hi
    obtain ⟨x', hx', rx⟩ := rv.get vx
    have ex : x' = x := Option.some.inj (hx'.symm.trans (by simpa using hx))
    subst ex
    have new : ObjOk X.prog X.w (upd H T (.tup [.int (i : Nat), xs[i]])) h' T (.tup [.int (i : Nat), xs[i]]) :=
      ⟨by show 2 ≤ sizeLine; decide, [.int i tt, x'], .cons ⟨_, rfl⟩ (.cons rx .nil), ⟨o, ho, hoc, m, by rw [hod]; simp⟩⟩
    have I1 : Inv X pins σ (upd H T (.tup [.int (i : Nat), xs[i]])) { s with heap := h', toks := tk } :=
      I.turnedNew (t' := tk) (ch := [e, it]) (fun c ob hb q => hk c ob hb q) hf hT new
    refine ⟨.ref T, _, I1, rfl, ⟨T, _, rfl, I.hok.fresh hT, rfl, fun l hl => by rw [sq_inj I hl qx]; exact vx⟩, ⟨j0, j1⟩, fun c hcm => ?_⟩
    rw [upd_ne (Nat.ne_of_lt (Nat.lt_of_lt_of_le (inH c hcm) hT))]
    exact (hf c hcm).1
  done := by
    intro X eP ew eK hc i pins s σ H E I hf st hg
    subst eP ew eK
    obtain ⟨k0, k1⟩ := st
    obtain ⟨xs, qx, hi⟩ := hg
    obtain ⟨its, rv, p, _⟩ := stands I qx
    have l1 := rv.length
    have hh : X.A.in1.handled = none := I.ok.hd hc
    have G := GoesN.enumFrom (A := X.A) (elts := elts) (x1 := kk) (pos := tpos) 0 (draws (P := X.prog) (w := X.w) (A := X.A.in1) t hh it a n1 its.toArray) e hei (by simp [hei, hea]) (by simp)
    have ee : i = its.toArray.size := by simp only [List.size_toArray]; omega
    subst ee
    exact G.stops s _ E ⟨k0, k1, p⟩ fun h' tk hk htk => I.turnedL (t' := tk) (ch := [e, it]) (fun c ob hb q => hk c ob hb q) hf
  self := fun _ _ _ _ _ st k => by
    obtain ⟨⟨old, k0⟩, _⟩ := st
    exact wpAny_pyIter_enum k0 k
def iEnumS (K : PySem.W.Frag) (ta : TA) : TI := fun σ H R => ta σ H fun vs H1 => ∃ (t : Bool) (a : Addr) (xs : List V), vs = [.ref a] ∧ Sq t K H1 a xs ∧ R (ItE K t a) H1
theorem pi_enumS {X : Cx} {e : Expr} {ta : TA} {p pos tpos : Pos} {elts : List Expr} {kk : Nat} (hg : Gl X "enumerate") (hm : X.mg "enumerate" = none) (ha : PA X [e] ta) (hs : starEach [e] X.env = [(false, eval e X.env)] := by rfl) :
    PI X (.Tuple elts kk tpos) (.Call (.Name "enumerate" p) [e] [] pos) (iEnumS X.K ta) := by
  refine ⟨fun pins s σ H R I h => ?_⟩
  refine Call_ (ld_blt I hg hm boot_enumerate (PyProof.Rows.callWith_type1 (thn (ha.run pos pins s σ H _ I h) fun us s1 ⟨vs, H1, I1, r1, q1⟩ => ?_) hs rfl))
  obtain ⟨t, a, xs, ex, hq, q⟩ := q1
  subst ex
  cases r1 with
  | cons r rr =>
    cases rr
    cases r
    obtain ⟨its, rv, p1, la⟩ := stands I1 hq
    refine enum_begins1 (begins t a its.toArray) p1 fun h' k0 k1 hsz hk => wpAny_pyIter_enum k0 ?_
    have I2 : Inv X pins σ H1 { s1 with heap := h' } := I1.kept (t' := s1.toks) hk
    refine ⟨s1.heap.objs.size + 1, [s1.heap.objs.size + 1, s1.heap.objs.size], _, _, H1, rfl, I2, turnE (Nat.ne_of_lt la) (Nat.succ_ne_self _) (Nat.ne_of_gt (Nat.lt_succ_of_lt la)), ⟨⟨.none, k0⟩, at_new k1⟩, fun b hb => ?_, q⟩
    have e' : b = s1.heap.objs.size + 1 ∨ b = s1.heap.objs.size := by simpa using hb
    have hle : s1.heap.objs.size ≤ b := by
      rcases e' with z | z
      · rw [z]; exact Nat.le_add_right _ _
      · rw [z]; exact Nat.le_refl _
    exact I1.fpOk hle (I1.hok.fresh hle)
theorem walkE {K : PySem.W.Frag} {t : Bool} {a : Addr} {xs : List V} : Walk (ItE K t a) xs.length (fun H => Sq t K H a xs) (YPair (fun i => some (.int (i : Nat))) (fun i => xs[i]?)) := by
  refine ⟨fun i _ hi q => ⟨xs, q, hi⟩, fun _ q => ⟨xs, q, rfl⟩, fun i H v H' _ q y => ?_⟩
  obtain ⟨T, x, h1, h2, h3, h4⟩ := y
  exact ⟨T, .int (i : Nat), x, h1, h2, h3, rfl, h4 xs q⟩
end ZM
/-! set(xs), xs a list of ints. -/
namespace SetLi
open PySem PySem.Spec PyProof.Rows L2
abbrev oSet (w : World) : Obj := { cls := .type "set", dict := none
                                   data := .set #[] 0 (.fresh 0 0 (!w.params.followText "set-order")) }
abbrev oIt (l : Addr) : Obj := { cls := .type "list_iterator"
                                 data := .fields #[.ref l, .int 0 0] }
section
variable {P : Program} {w : World} {A : Around} {E : Value → Shared → Prop} {s : Shared}
/-- what is told of the filled set -/
def Full (w : World) (s : Shared) (ns : List Int) (h' : Heap) (c : Nat) : Prop :=
  SetR w h' s.heap.objs.size (fun j => decide (j ∈ ns)) c ∧ c ≤ ns.length ∧
  ∀ b o, s.heap.get? b = some o → h'.get? b = some o
theorem set_of_list {l : Addr} {xs : Array Value} (ns : List Int) {Q : Value → Shared → Prop}
    (quiet : A.handled = none) (hl : s.heap.IsList l xs) (hi : IntsAre xs.toList ns) (few : ns.length + 1 < scanBound)
    (k : ∀ (h' : Heap) (tk c : Nat), Full w s ns h' c → Q (.ref s.heap.objs.size) { s with heap := h', toks := tk }) :
    wpAny (model P w) A (call (.type "set") [.ref l]) Q E s := by
  have size : xs.size = ns.length := by
    rw [← Array.length_toList]
    exact IntsAre.length hi
  obtain ⟨c, tl, mro⟩ := F.called_set.mro
  have made := F.called_set.made
  have sub := F.called_set.sub
  have notTy := F.called_set.notType
  have canNew := F.called_set.canCreate
  have tc := F.typeCall_set_1 (.ref l)
  refine wpAny_call (codeAny_of_tree ?_)
  show wpAny _ _ (callAny (.type "set") _) _ _ _
  refine wpAny_pure ⟨Code.quiet_builtin _ (by decide +kernel), ?_⟩
  refine codeAny_builtin F.entry_type_call ?_
  rw [Around.under_plain (weight_type_call_type "set" [.ref l] []) rfl]
  repeat any_goals first | assumption | wp_step
  refine codeAny_mono (code_set_led1 (.ref l) (E := E) (Q₁ := fun obj s₁ => obj = .ref s.heap.objs.size ∧
    s₁ = { s with heap := s.heap.push (oSet w) }) ⟨rfl, rfl⟩) fun r s1 got => ?_
  match r, got with
  | .error e, got => exact got
  | .ok .next, got => exact got.elim
  | .ok .brk, got => exact got.elim
  | .ok .cont, got => exact got.elim
  | .ok (.ret obj), got =>
    obtain ⟨rfl, rfl⟩ := got
    have get0 : (s.heap.push (oSet w)).get? s.heap.objs.size = some (oSet w) := Heap.get?_push_size _ rfl
    have ty0 : Shared.TypeIs { s with heap := s.heap.push (oSet w) } (.ref s.heap.objs.size) "set" := ⟨_, get0, rfl⟩
    have look := F.called_set.init.lookup
    have bind := F.called_set.init.bind (.ref s.heap.objs.size)
    repeat any_goals first | assumption | wp_step
    refine codeAny_mono (codeAny_call_builtin
      (R := wants (fun r s₂ => r = .none ∧ ∃ h' tk c, s₂ = { s with heap := h', toks := tk } ∧ Full w s ns h' c) E)
      F.called_set.init.plain F.entry_set_init (check_set_init_1 ty0 ?_)) fun r2 s2 got2 => ?_
    · obtain ⟨ol, at0, cl, nl, dl⟩ := hl
      obtain ⟨ocls, odict, odata, oslots⟩ := ol
      simp only at cl dl
      subst cl
      subst dl
      have at1 := Heap.get?_push_of_some (oSet w) at0
      have sA := F.sub_list_set
      have sB := F.sub_list_frozenset
      have isl : (s.heap.push (oSet w)).IsList l xs := ⟨_, at1, rfl, nl, rfl⟩
      unfold Builtin.«set.__init__» noKeywords Builtin.Frozenset.updateFrom
      generalize hIter : pyIter = it
      wp_walk
      subst hIter
      refine wpAny_pyIter_list isl ?_
      refine wpAny_bind (wpAny_runValue ?_)
      have below : l < s.heap.objs.size := Heap.lt_size at0
      have quiet3 : A.in1.in1.in1.handled = none := by simp [quiet]
      have grown : (s.heap.push (oSet w)).objs.size = s.heap.objs.size + 1 := Heap.size_push ..
      have apart : l ≠ (s.heap.push (oSet w)).objs.size := by
        rw [grown]
        exact Nat.ne_of_lt (Nat.lt_succ_of_lt below)
      have fresh : s.heap.objs.size ∉ [(s.heap.push (oSet w)).objs.size, l] := by
        rw [grown]
        intro hm
        rcases List.mem_cons.mp hm with e | hm
        · exact absurd e (Nat.ne_of_lt (Nat.lt_succ_self _))
        · exact absurd (List.mem_singleton.mp hm) (Nat.ne_of_gt below)
      have vals : ∀ (i : Nat) (v : Value), xs[i]? = some v → ∃ z t, ns[i]? = some z ∧ v = .int z t := by
        intro i v hv
        have hlt := (Array.getElem?_eq_some_iff.mp hv).1
        have hin : i < ns.length := by omega
        obtain ⟨t, e⟩ := PyProof.Rows.IntsAre.int_at hi i v (by rw [Array.getElem?_toList]; exact hv)
        refine ⟨ns[i], t, List.getElem?_eq_getElem hin, ?_⟩
        rw [e, List.getD_eq_getElem?_getD, List.getElem?_eq_getElem hin]
        rfl
      refine set_update_ints ((Walks.list quiet3 _ l apart xs).toS) s.heap.objs.size fresh ns size few vals
        (xs.size - 0) 0 _ (by omega) (Nat.zero_le _) ⟨⟨_, Heap.get?_push_size _ rfl, rfl, rfl⟩, isl.push _⟩ ?first ?last
      case first =>
        have get1 : ((s.heap.push (oSet w)).push (oIt l)).get? s.heap.objs.size = some (oSet w) :=
          Heap.get?_push_of_some _ get0
        exact ⟨0, Nat.le_refl 0, setR_new_at get1⟩
      case last =>
        intro s' c' mv le full
        obtain ⟨h', g2, d', tk', os'⟩ := s'
        obtain rfl : g2 = s.gens := mv.gens
        obtain rfl : d' = s.drawn := mv.drawn
        obtain rfl : os' = s.os := mv.os
        rw [size] at le
        show wpAny _ _ _ _ _ _
        refine wpAny_pure ?_
        show wpAny _ _ (ret Value.none) _ _ _
        refine wpAny_pure ⟨rfl, h', tk', c', rfl, full, le, fun b o e => ?_⟩
        have b0 : b < s.heap.objs.size := Heap.lt_size e
        refine mv.heap b o (fun hm => ?_) (Heap.get?_push_of_some _ (Heap.get?_push_of_some _ e))
        rcases List.mem_cons.mp hm with z | hm
        · exact absurd z (Nat.ne_of_lt b0)
        · have z := List.mem_singleton.mp hm
          rw [grown] at z
          exact absurd z (Nat.ne_of_lt (Nat.lt_succ_of_lt b0))
    · match r2, got2 with
      | .error e, got2 => exact got2
      | .ok .next, got2 => exact got2.elim
      | .ok .brk, got2 => exact got2.elim
      | .ok .cont, got2 => exact got2.elim
      | .ok (.ret r), got2 =>
        obtain ⟨rfl, h', tk, c', rfl, full⟩ := got2
        repeat any_goals first | assumption | wp_step
        exact k _ _ _ full
end
section
variable {X : Cx}
def rSetLi (K : PySem.W.Frag) (w : World) : List V → Hp → VK → Prop := fun xs H Q => ∃ (l : Addr) (ns : List Int),
  xs = [.ref l] ∧ SqL K H l (ns.map V.int) ∧ ns.length ≤ 1000 ∧
  ∀ (p : Addr) (c : Nat), H p = none → c ≤ ns.length → Q (.ref p) (upd H p (SetO w p (fun k => decide (k ∈ ns)) c))
theorem cr_setLi (hc : X.calm = true) : CallR X (.type "set") (rSetLi X.K X.w) := by
  intro pins s σ H xs us Q I r h
  obtain ⟨l, ns, rfl, hq, hl, q⟩ := h
  cases r with
  | cons r rr =>
    cases rr
    cases r
    obtain ⟨its, rv, pt, hz⟩ := I.list hq
    have hi : IntsAre its.toArray.toList ns := ints_of_vals rv
    obtain ⟨o, n, ho, hcl, _, hd⟩ := pt
    refine set_of_list (xs := its.toArray) ns (I.ok.hd hc) ⟨o, ho, hcl, n, hd⟩ hi (by unfold scanBound; omega) fun h' tk c full => ?_
    obtain ⟨R1, hcn, kept⟩ := full
    exact ⟨.ref _, upd H s.heap.objs.size (SetO X.w s.heap.objs.size (fun k => decide (k ∈ ns)) c),
      I.laid (t' := tk) kept (Nat.le_refl _) (setO_new R1), rfl, q _ c (I.hok.fresh (Nat.le_refl _)) hcn⟩
end
end SetLi
/-! len of a set of ints. -/
namespace SetLi
open PySem PySem.Spec PyProof.Rows L2
section
variable {X : Cx}
def rSetLen (w : World) : List V → Hp → VK → Prop := fun xs H Q => ∃ (a : Addr) (S : Int → Bool) (n : Nat) (ns : List Int), xs = [.ref a] ∧ H a = some (SetO w a S n) ∧ ns.Nodup ∧ (∀ k, k ∈ ns ↔ S k = true) ∧ Q (.int ns.length) H
theorem cr_setLen : CallR X (.builtin "len") (rSetLen X.w) := by
  intro pins s σ H xs us Q I r h
  obtain ⟨a, S, n, ns, rfl, ha, nd, mem, q⟩ := h
  cases r with
  | cons r rr =>
    cases rr
    cases r
    obtain ⟨o, es, ep, t, ho, hx, hd, g, nd2, hm, hb, hf, hn, _⟩ := setO_get I ha
    have e : (es.toList.map keyOf).length = ns.length := by
      refine List.Perm.length_eq ((List.perm_ext_iff_of_nodup nd2 nd).mpr fun k => ?_)
      rw [mem k, hm k]
    rw [List.length_map, Array.length_toList] at e
    refine call_len_set ho hx hd hf (by unfold scanBound at hb; omega) ⟨.int es.size, H, I.tok _, ⟨_, rfl⟩, ?_⟩
    rw [e]
    exact q
end
end SetLi
/-! How places hang together by ties: the marks of the pieces, the wood. -/
namespace Hang
def step (P : List Nat) (x y : Nat) : List Nat := P.map fun m => if m = max x y then min x y else m
def lawStep (P : List Nat) (x y : Nat) : List Nat := P.map fun m => if m = x ∨ m = y then min x y else m
theorem law_eq {P : List Nat} {x y : Nat} (h : x ≠ y) : lawStep P x y = step P x y := by
  unfold lawStep step
  apply List.map_congr_left
  intro m _
  by_cases c : m = max x y
  · rw [if_pos c, if_pos]
    omega
  · rw [if_neg c]
    by_cases d : m = x ∨ m = y
    · rw [if_pos d]
      omega
    · rw [if_neg d]
def Ok (n : Nat) (P : List Nat) : Prop := P.length = n ∧ ∀ i, i < n → P.getD i 0 ≤ i ∧ P.getD (P.getD i 0) 0 = P.getD i 0
theorem ok_lt {n : Nat} {P : List Nat} (h : Ok n P) {i : Nat} (hi : i < n) : P.getD i 0 < n := Nat.lt_of_le_of_lt (h.2 i hi).1 hi
theorem len_step {P : List Nat} {x y : Nat} : (step P x y).length = P.length := List.length_map ..
theorem at_step {P : List Nat} {x y i : Nat} (h : i < P.length) : (step P x y).getD i 0 = if P.getD i 0 = max x y then min x y else P.getD i 0 := by
  unfold step
  rw [List.getD_eq_getElem?_getD, List.getElem?_map, List.getD_eq_getElem?_getD, List.getElem?_eq_getElem h]
  rfl
theorem range_ok {n : Nat} : Ok n (List.range n) := by
  refine ⟨List.length_range, fun i hi => ?_⟩
  have e : ∀ j, j < n → (List.range n).getD j 0 = j := fun j hj => by
    rw [List.getD_eq_getElem?_getD, List.getElem?_range hj]
    rfl
  rw [e i hi]
  exact ⟨Nat.le_refl _, e i hi⟩
/-- the marks of two places are roots -/
theorem step_ok {n : Nat} {P : List Nat} {a b : Nat} (h : Ok n P) (ha : a < n) (hb : b < n) (ne : P.getD a 0 ≠ P.getD b 0) : Ok n (step P (P.getD a 0) (P.getD b 0)) := by
  refine ⟨by rw [len_step]; exact h.1, fun i hi => ?_⟩
  have l := h.1
  have rx := h.2 a ha
  have ry := h.2 b hb
  have ri := h.2 i hi
  have lx := ok_lt h ha
  have ly := ok_lt h hb
  have li := ok_lt h hi
  rw [at_step (by omega)]
  by_cases c : P.getD i 0 = max (P.getD a 0) (P.getD b 0)
  · rw [if_pos c]
    refine ⟨by omega, ?_⟩
    rw [at_step (by omega)]
    have e : P.getD (min (P.getD a 0) (P.getD b 0)) 0 = min (P.getD a 0) (P.getD b 0) := by
      rcases Nat.le_total (P.getD a 0) (P.getD b 0) with d | d
      · rw [Nat.min_eq_left d]; exact rx.2
      · rw [Nat.min_eq_right d]; exact ry.2
    rw [e, if_neg (by omega)]
  · rw [if_neg c]
    refine ⟨ri.1, ?_⟩
    rw [at_step (by omega), ri.2, if_neg c]
def roots (P : List Nat) : List Nat := (List.range P.length).filter fun i => P.getD i 0 == i
theorem filter_one {n h : Nat} {p : Nat → Bool} (hn : h < n) (hp : p h = true) : ((List.range n).filter fun i => p i && (i != h)).length + 1 = ((List.range n).filter p).length := by
  induction n with
  | zero => omega
  | succ n ih =>
    rw [List.range_succ, List.filter_append, List.filter_append, List.length_append, List.length_append]
    by_cases c : h = n
    · subst c
      have e : (List.range h).filter (fun i => p i && (i != h)) = (List.range h).filter p := by
        apply List.filter_congr
        intro i hi
        have : i ≠ h := by have := List.mem_range.mp hi; omega
        simp [this]
      rw [e]
      simp [hp]
    · have := ih (by omega)
      have e : ([n].filter fun i => p i && (i != h)) = [n].filter p := by
        have : (n != h) = true := by simpa using fun e => c e.symm
        simp only [List.filter_cons, List.filter_nil, this, Bool.and_true]
      rw [e]
      omega
theorem roots_step {n : Nat} {P : List Nat} {a b : Nat} (h : Ok n P) (ha : a < n) (hb : b < n) (ne : P.getD a 0 ≠ P.getD b 0) : (roots (step P (P.getD a 0) (P.getD b 0))).length + 1 = (roots P).length := by
  have l := h.1
  have rx := h.2 a ha
  have ry := h.2 b hb
  have lx := ok_lt h ha
  have ly := ok_lt h hb
  unfold roots
  rw [len_step]
  have eH : P.getD (max (P.getD a 0) (P.getD b 0)) 0 = max (P.getD a 0) (P.getD b 0) := by
    rcases Nat.le_total (P.getD a 0) (P.getD b 0) with d | d
    · rw [Nat.max_eq_right d]; exact ry.2
    · rw [Nat.max_eq_left d]; exact rx.2
  rw [← filter_one (n := P.length) (h := max (P.getD a 0) (P.getD b 0)) (p := fun i => P.getD i 0 == i) (by omega) (by simpa using eH)]
  congr 2
  apply List.filter_congr
  intro i hi
  have hi := List.mem_range.mp hi
  rw [at_step hi]
  have ri := h.2 i (by omega)
  by_cases c : P.getD i 0 = max (P.getD a 0) (P.getD b 0)
  · rw [if_pos c]
    have eL : P.getD (min (P.getD a 0) (P.getD b 0)) 0 = min (P.getD a 0) (P.getD b 0) := by
      rcases Nat.le_total (P.getD a 0) (P.getD b 0) with d | d
      · rw [Nat.min_eq_left d]; exact rx.2
      · rw [Nat.min_eq_right d]; exact ry.2
    have h1 : ((min (P.getD a 0) (P.getD b 0)) == i) = false := by
      rw [beq_eq_false_iff_ne]
      intro e
      rw [← e, eL] at c
      omega
    rw [h1]
    by_cases d : i = max (P.getD a 0) (P.getD b 0)
    · have : (i != max (P.getD a 0) (P.getD b 0)) = false := by simpa using d
      rw [this, Bool.and_false]
    · have : (P.getD i 0 == i) = false := by
        rw [beq_eq_false_iff_ne]
        intro e
        omega
      rw [this, Bool.false_and]
  · rw [if_neg c]
    by_cases d : i = max (P.getD a 0) (P.getD b 0)
    · exfalso
      rw [d] at c
      exact c eH
    · have : (i != max (P.getD a 0) (P.getD b 0)) = true := by simpa using d
      rw [this, Bool.and_true]
/-- marks and wood after ties, each told by its two places -/
def runs : List (Nat × Nat) → Nat → List Nat → List Nat → List Nat × List Nat
  | [], _, P, W => (P, W)
  | (a, b) :: es, k, P, W => if P.getD a 0 = P.getD b 0 then runs es (k + 1) P W else runs es (k + 1) (step P (P.getD a 0) (P.getD b 0)) (W ++ [k])
def hung (n : Nat) (es : List (Nat × Nat)) : List Nat × List Nat := runs es 0 (List.range n) []
theorem runs_snoc : ∀ {es : List (Nat × Nat)} {k : Nat} {P W : List Nat} {a b : Nat}, runs (es ++ [(a, b)]) k P W = (let R := runs es k P W; if R.1.getD a 0 = R.1.getD b 0 then R else (step R.1 (R.1.getD a 0) (R.1.getD b 0), R.2 ++ [k + es.length]))
  | [], k, P, W, a, b => by
    simp only [List.nil_append, runs]
    rfl
  | (c, d) :: es, k, P, W, a, b => by
    show (if P.getD c 0 = P.getD d 0 then runs (es ++ [(a, b)]) (k + 1) P W else runs (es ++ [(a, b)]) (k + 1) (step P (P.getD c 0) (P.getD d 0)) (W ++ [k])) = _
    have e : k + ((c, d) :: es).length = k + 1 + es.length := by rw [List.length_cons]; omega
    rw [e]
    by_cases q : P.getD c 0 = P.getD d 0
    · rw [if_pos q, runs_snoc]
      simp only [runs, if_pos q]
    · rw [if_neg q, runs_snoc]
      simp only [runs, if_neg q]
theorem runs_ok {n : Nat} : ∀ {es : List (Nat × Nat)} {k : Nat} {P W : List Nat}, (∀ e ∈ es, e.1 < n ∧ e.2 < n) → Ok n P → W.length + (roots P).length = n → Ok n (runs es k P W).1 ∧ (runs es k P W).2.length + (roots (runs es k P W).1).length = n
  | [], k, P, W, _, h, hw => ⟨h, hw⟩
  | (a, b) :: es, k, P, W, hes, h, hw => by
    obtain ⟨ha, hb⟩ : a < n ∧ b < n := hes (a, b) (List.mem_cons_self ..)
    have hes' : ∀ e ∈ es, e.1 < n ∧ e.2 < n := fun e m => hes e (List.mem_cons_of_mem _ m)
    show Ok n (if P.getD a 0 = P.getD b 0 then runs es (k + 1) P W else runs es (k + 1) (step P (P.getD a 0) (P.getD b 0)) (W ++ [k])).1 ∧ _ = _
    have eR : runs ((a, b) :: es) k P W = if P.getD a 0 = P.getD b 0 then runs es (k + 1) P W else runs es (k + 1) (step P (P.getD a 0) (P.getD b 0)) (W ++ [k]) := rfl
    rw [eR]
    by_cases q : P.getD a 0 = P.getD b 0
    · rw [if_pos q]
      exact runs_ok hes' h hw
    · rw [if_neg q]
      refine runs_ok hes' (step_ok h ha hb q) ?_
      have := roots_step h ha hb q
      show (W ++ [k]).length + (roots (step P (P.getD a 0) (P.getD b 0))).length = n
      rw [List.length_append]
      simp only [List.length_cons, List.length_nil]
      omega
theorem roots_range {n : Nat} : roots (List.range n) = List.range n := by
  unfold roots
  rw [List.length_range]
  apply List.filter_eq_self.mpr
  intro i hi
  have hi := List.mem_range.mp hi
  rw [List.getD_eq_getElem?_getD, List.getElem?_range hi]
  simp
theorem hung_ok {n : Nat} {es : List (Nat × Nat)} (h : ∀ e ∈ es, e.1 < n ∧ e.2 < n) : Ok n (hung n es).1 ∧ (hung n es).2.length + (roots (hung n es).1).length = n :=
  runs_ok h range_ok (by rw [roots_range, List.length_range]; simp)
theorem mem_roots {n : Nat} {P : List Nat} (h : Ok n P) {k : Nat} : k ∈ roots P ↔ k ∈ P := by
  unfold roots
  rw [List.mem_filter, List.mem_range]
  constructor
  · rintro ⟨hk, e⟩
    have e : P.getD k 0 = k := by simpa using e
    rw [List.getD_eq_getElem?_getD, List.getElem?_eq_getElem hk] at e
    have e : P[k] = k := e
    rw [← e]
    exact List.getElem_mem ..
  · intro hm
    obtain ⟨i, hi⟩ := List.getElem?_of_mem hm
    have hl := (List.getElem?_eq_some_iff.mp hi).1
    have l := h.1
    have e : P.getD i 0 = k := by rw [List.getD_eq_getElem?_getD, hi]; rfl
    have r := h.2 i (by omega)
    rw [e] at r
    exact ⟨by omega, by simpa using r.2⟩
theorem roots_lt {P : List Nat} : (roots P).Pairwise (· < ·) := List.Pairwise.filter _ List.pairwise_lt_range
theorem strict_uniq : ∀ {a b : List Int}, a.Pairwise (· < ·) → b.Pairwise (· < ·) → (∀ k, k ∈ a ↔ k ∈ b) → a = b
  | [], [], _, _, _ => rfl
  | [], y :: b, _, _, h => by cases (h y).mpr (List.mem_cons_self ..)
  | x :: a, [], _, _, h => by cases (h x).mp (List.mem_cons_self ..)
  | x :: a, y :: b, p, q, h => by
    obtain ⟨p1, p2⟩ := List.pairwise_cons.mp p
    obtain ⟨q1, q2⟩ := List.pairwise_cons.mp q
    have e : x = y := by
      rcases List.mem_cons.mp ((h x).mp (List.mem_cons_self ..)) with e | m
      · exact e
      · rcases List.mem_cons.mp ((h y).mpr (List.mem_cons_self ..)) with e | m'
        · exact e.symm
        · have := q1 x m
          have := p1 y m'
          omega
    subst e
    rw [strict_uniq p2 q2 fun k => ⟨fun m => ?_, fun m => ?_⟩]
    · rcases List.mem_cons.mp ((h k).mp (List.mem_cons_of_mem _ m)) with e | m'
      · subst e
        have := p1 k m
        omega
      · exact m'
    · rcases List.mem_cons.mp ((h k).mpr (List.mem_cons_of_mem _ m)) with e | m'
      · subst e
        have := q1 k m
        omega
      · exact m'
/-- what is sorted of the marks' set is the roots -/
theorem sorted_roots {n : Nat} {P : List Nat} (h : Ok n P) {ns : List Int} (hs : ns.Pairwise (· < ·)) (hm : ∀ k : Int, k ∈ ns ↔ k ∈ P.map fun m : Nat => (m : Int)) : ns = (roots P).map fun m : Nat => (m : Int) := by
  refine strict_uniq hs ?_ fun k => ?_
  · rw [List.pairwise_map]
    exact List.Pairwise.imp (fun h => by omega) roots_lt
  · rw [hm, List.mem_map, List.mem_map]
    constructor
    · rintro ⟨m, hm, e⟩
      exact ⟨m, (mem_roots h).mpr hm, e⟩
    · rintro ⟨m, hm, e⟩
      exact ⟨m, (mem_roots h).mp hm, e⟩
def piece (P : List Nat) (r : Nat) : List Nat := (List.range P.length).filter fun i => P.getD i 0 == r
def pieces (P : List Nat) : List (List Nat) := (roots P).map (piece P)
theorem piece_len {P : List Nat} {r : Nat} : (piece P r).length ≤ P.length := by
  have := List.length_filter_le (fun i => P.getD i 0 == r) (List.range P.length)
  rw [List.length_range] at this
  exact this
theorem roots_len {P : List Nat} : (roots P).length ≤ P.length := by
  have := List.length_filter_le (fun i => P.getD i 0 == i) (List.range P.length)
  rw [List.length_range] at this
  exact this
end Hang
/-! Ways along the wood: what each round finds. -/
namespace Ways
abbrev St := List (Nat × Bool)
abbrev Ds := List (Nat × St)
abbrev Edge := Nat × Nat × Nat
def turn (S : Ds) (e : Edge) : Ds := match S.lookup e.2.1, S.lookup e.2.2 with
  | some q, none => S ++ [(e.2.2, q ++ [(e.1, true)])]
  | none, some q => S ++ [(e.2.1, q ++ [(e.1, false)])]
  | _, _ => S
def round (E : List Edge) (S : Ds) : Ds := E.foldl turn S
def rounds (E : List Edge) : Nat → Ds → Ds
  | 0, S => S
  | k + 1, S => round E (rounds E k S)
def walked (en : Nat → Nat × Nat) : Nat → St → Option Nat
  | p, [] => some p
  | p, (t, f) :: r => if (if f then (en t).1 else (en t).2) = p then walked en (if f then (en t).2 else (en t).1) r else none
theorem walked_app {en : Nat → Nat × Nat} : ∀ {st : St} {p q : Nat} {r : St}, walked en p st = some q → walked en p (st ++ r) = walked en q r
  | [], p, q, r, h => by
    cases h
    rfl
  | (t, f) :: st, p, q, r, h => by
    show (if (if f then (en t).1 else (en t).2) = p then walked en (if f then (en t).2 else (en t).1) (st ++ r) else none) = _
    unfold walked at h
    by_cases c : (if f then (en t).1 else (en t).2) = p
    · rw [if_pos c] at h ⊢
      exact walked_app h
    · rw [if_neg c] at h
      cases h
theorem lk_app {S : Ds} {k b : Nat} {x : St} : (S ++ [(b, x)]).lookup k = match S.lookup k with | some y => some y | none => if k = b then some x else none := by
  induction S with
  | nil =>
    show (match k == b with | true => some x | false => none) = _
    by_cases c : k = b
    · subst c
      simp
    · have : (k == b) = false := by simpa using c
      rw [this]
      simp [c]
  | cons h t ih =>
    obtain ⟨a, y⟩ := h
    show (match k == a with | true => some y | false => (t ++ [(b, x)]).lookup k) = match (match k == a with | true => some y | false => t.lookup k) with | some y => some y | none => _
    cases (k == a) with
    | true => rfl
    | false => exact ih
def Has (S : Ds) (p : Nat) : Prop := ∃ st, S.lookup p = some st
theorem turn_cases (S : Ds) (e : Edge) : (turn S e = S ∧ (Has S e.2.1 ↔ Has S e.2.2)) ∨ (∃ q, S.lookup e.2.1 = some q ∧ S.lookup e.2.2 = none ∧ turn S e = S ++ [(e.2.2, q ++ [(e.1, true)])]) ∨ (∃ q, S.lookup e.2.1 = none ∧ S.lookup e.2.2 = some q ∧ turn S e = S ++ [(e.2.1, q ++ [(e.1, false)])]) := by
  unfold turn Has
  cases h1 : S.lookup e.2.1 with
  | none =>
    cases h2 : S.lookup e.2.2 with
    | none => exact .inl ⟨rfl, by simp⟩
    | some q => exact .inr (.inr ⟨q, rfl, rfl, rfl⟩)
  | some q =>
    cases h2 : S.lookup e.2.2 with
    | none => exact .inr (.inl ⟨q, rfl, rfl, rfl⟩)
    | some r => exact .inl ⟨rfl, by simp⟩
theorem turn_keep {S : Ds} {e : Edge} {p : Nat} {st : St} (h : S.lookup p = some st) : (turn S e).lookup p = some st := by
  rcases turn_cases S e with ⟨q, _⟩ | ⟨q, _, _, r⟩ | ⟨q, _, _, r⟩
  · rw [q]; exact h
  · rw [r, lk_app, h]
  · rw [r, lk_app, h]
theorem turn_has {S : Ds} {e : Edge} {p : Nat} (h : Has S p) : Has (turn S e) p := by
  obtain ⟨st, h⟩ := h
  exact ⟨st, turn_keep h⟩
theorem fold_has {E : List Edge} : ∀ {S : Ds} {p : Nat}, Has S p → Has (E.foldl turn S) p := by
  induction E with
  | nil => intro S p h; exact h
  | cons e E ih => intro S p h; exact ih (turn_has h)
/-- both ends are found -/
def Both (S : Ds) (e : Edge) : Prop := Has S e.2.1 ∧ Has S e.2.2
/-- what is kept of the found ways from p -/
structure Good (en : Nat → Nat × Nat) (E : List Edge) (p : Nat) (S : Ds) : Prop where
  start : S.lookup p = some []
  walk : ∀ q st, S.lookup q = some st → walked en p st = some q
  nd : ∀ q st, S.lookup q = some st → (st.map (·.1)).Nodup
  ties : ∀ q st, S.lookup q = some st → ∀ t ∈ st.map (·.1), ∃ e ∈ E, e.1 = t ∧ Both S e
theorem good_turn {en : Nat → Nat × Nat} {E : List Edge} {p : Nat} {S : Ds} {e : Edge} (g : Good en E p S) (he : e ∈ E) (hE : ∀ e ∈ E, en e.1 = (e.2.1, e.2.2)) : Good en E p (Ways.turn S e) := by
  have key : ∀ (a b : Nat) (f : Bool) (q : St), S.lookup a = some q → S.lookup b = none → walked en a [(e.1, f)] = some b → (∀ e' ∈ E, e'.1 = e.1 → ¬ Both S e') → Has (turn S e) e.2.1 → Has (turn S e) e.2.2 → turn S e = S ++ [(b, q ++ [(e.1, f)])] → Good en E p (turn S e) := by
    intro a b f q ha hb hw hn b1 b2 ht
    have cs : ∀ r st, (Ways.turn S e).lookup r = some st → S.lookup r = some st ∨ (r = b ∧ st = q ++ [(e.1, f)]) := by
      intro r st h
      rw [ht, lk_app] at h
      cases hr : S.lookup r with
      | some y => rw [hr] at h; exact .inl h
      | none =>
        rw [hr] at h
        by_cases c : r = b
        · exact .inr ⟨c, by simpa [c] using h.symm⟩
        · simp [c] at h
    refine ⟨turn_keep g.start, ?_, ?_, ?_⟩
    · intro r st h
      rcases cs r st h with h | ⟨rfl, rfl⟩
      · exact g.walk r st h
      · rw [walked_app (g.walk a q ha)]
        exact hw
    · intro r st h
      rcases cs r st h with h | ⟨rfl, rfl⟩
      · exact g.nd r st h
      · rw [List.map_append, List.nodup_append]
        refine ⟨g.nd a q ha, by simp, ?_⟩
        intro x hx y hy
        have hy : y = e.1 := by simpa using hy
        subst hy
        intro z
        subst z
        obtain ⟨e', he', e1, bo⟩ := g.ties a q ha _ hx
        exact hn e' he' e1 bo
    · intro r st h t hm
      rcases cs r st h with h | ⟨rfl, rfl⟩
      · obtain ⟨e', he', e1, bo⟩ := g.ties r st h t hm
        exact ⟨e', he', e1, turn_has bo.1, turn_has bo.2⟩
      · rw [List.map_append] at hm
        rcases List.mem_append.mp hm with hm | hm
        · obtain ⟨e', he', e1, bo⟩ := g.ties a q ha t hm
          exact ⟨e', he', e1, turn_has bo.1, turn_has bo.2⟩
        · have : t = e.1 := by simpa using hm
          exact ⟨e, he, this.symm, b1, b2⟩
  have same : ∀ e' ∈ E, e'.1 = e.1 → e' = e := fun e' he' h => by
    have h1 := hE e' he'
    have h2 := hE e he
    rw [h, h2] at h1
    obtain ⟨x, y, z⟩ := e'
    obtain ⟨x', y', z'⟩ := e
    simp only [Prod.mk.injEq] at h1 h ⊢
    exact ⟨h, h1.1.symm, h1.2.symm⟩
  rcases turn_cases S e with ⟨q, _⟩ | ⟨q, h1, h2, ht⟩ | ⟨q, h1, h2, ht⟩
  · rw [q]; exact g
  · refine key e.2.1 e.2.2 true q h1 h2 ?_ ?_ ?_ ?_ ht
    · simp [walked, hE e he]
    · intro e' he' h1' bo
      rw [same e' he' h1'] at bo
      obtain ⟨st, hst⟩ := bo.2
      rw [h2] at hst
      cases hst
    · exact turn_has ⟨q, h1⟩
    · exact ⟨q ++ [(e.1, true)], by rw [ht, lk_app, h2]; simp⟩
  · refine key e.2.2 e.2.1 false q h2 h1 ?_ ?_ ?_ ?_ ht
    · simp [walked, hE e he]
    · intro e' he' h1' bo
      rw [same e' he' h1'] at bo
      obtain ⟨st, hst⟩ := bo.1
      rw [h1] at hst
      cases hst
    · exact ⟨q ++ [(e.1, false)], by rw [ht, lk_app, h1]; simp⟩
    · exact turn_has ⟨q, h2⟩
theorem Good.fold {en : Nat → Nat × Nat} {E : List Edge} {p : Nat} (hE : ∀ e ∈ E, en e.1 = (e.2.1, e.2.2)) : ∀ {F : List Edge} {S : Ds}, (∀ e ∈ F, e ∈ E) → Good en E p S → Good en E p (F.foldl Ways.turn S) := by
  intro F
  induction F with
  | nil => intro S _ g; exact g
  | cons e F ih => intro S h g; exact ih (fun e m => h e (List.mem_cons_of_mem _ m)) (good_turn g (h e (List.mem_cons_self ..)) hE)
theorem Good.rounds {en : Nat → Nat × Nat} {E : List Edge} {p : Nat} (hE : ∀ e ∈ E, en e.1 = (e.2.1, e.2.2)) : ∀ {k : Nat} {S : Ds}, Good en E p S → Good en E p (rounds E k S)
  | 0, _, g => g
  | k + 1, _, g => Good.fold hE (fun e m => m) (Good.rounds hE (k := k) g)
theorem good0 {en : Nat → Nat × Nat} {E : List Edge} {p : Nat} : Good en E p [(p, [])] := by
  have cs : ∀ r (st : St), List.lookup r [(p, ([] : St))] = some st → r = p ∧ st = [] := by
    intro r st h
    by_cases c : r = p
    · subst c
      simp at h
      exact ⟨rfl, by first | exact h | exact h.symm⟩
    · have : (r == p) = false := by simpa using c
      simp [List.lookup, this] at h
  refine ⟨by simp, ?_, ?_, ?_⟩
  · intro r st h
    obtain ⟨rfl, rfl⟩ := cs r st h
    rfl
  · intro r st h
    obtain ⟨rfl, rfl⟩ := cs r st h
    simp
  · intro r st h
    obtain ⟨rfl, rfl⟩ := cs r st h
    simp
/-! ### all of the piece is found -/
def Closed (E : List Edge) (S : Ds) : Prop := ∀ e ∈ E, (Has S e.2.1 ↔ Has S e.2.2)
open Classical in
noncomputable def used (E : List Edge) (S : Ds) : Nat := E.countP fun e => decide (Both S e)
theorem used_le {E : List Edge} {S : Ds} : used E S ≤ E.length := List.countP_le_length
theorem used_mono {E : List Edge} {S T : Ds} (h : ∀ p, Has S p → Has T p) : used E S ≤ used E T := by
  unfold used
  refine List.countP_mono_left fun e _ he => ?_
  simp only [decide_eq_true_eq] at he ⊢
  exact ⟨h _ he.1, h _ he.2⟩
open Classical in
theorem used_lt {E : List Edge} {S T : Ds} {e : Edge} (h : ∀ p, Has S p → Has T p) (he : e ∈ E) (n : ¬ Both S e) (b : Both T e) : used E S < used E T := by
  induction E with
  | nil => cases he
  | cons x E ih =>
    unfold used
    rw [List.countP_cons, List.countP_cons]
    have m := used_mono (E := E) h
    unfold used at m
    rcases List.mem_cons.mp he with rfl | he
    · have e1 : decide (Both S e) = false := by simpa using n
      have e2 : decide (Both T e) = true := by simpa using b
      simp only [e1, e2]
      simp
      omega
    · have := ih he
      unfold used at this
      by_cases c : Both S x
      · have d : Both T x := ⟨h _ c.1, h _ c.2⟩
        simp only [c, d, decide_true, if_true]
        omega
      · simp only [c, decide_false]
        by_cases d : Both T x <;> simp [d] <;> omega
theorem closed_turn {E : List Edge} {S : Ds} {e : Edge} (h : Closed E S) (he : e ∈ E) : turn S e = S := by
  rcases turn_cases S e with ⟨q, _⟩ | ⟨q, h1, h2, _⟩ | ⟨q, h1, h2, _⟩
  · exact q
  · obtain ⟨st, hst⟩ := (h e he).mp ⟨q, h1⟩
    rw [h2] at hst
    cases hst
  · obtain ⟨st, hst⟩ := (h e he).mpr ⟨q, h2⟩
    rw [h1] at hst
    cases hst
theorem closed_fold {E : List Edge} {S : Ds} (h : Closed E S) : ∀ {F : List Edge}, (∀ e ∈ F, e ∈ E) → F.foldl turn S = S := by
  intro F
  induction F with
  | nil => intro _; rfl
  | cons e F ih =>
    intro hF
    show F.foldl turn (turn S e) = S
    rw [closed_turn h (hF e (List.mem_cons_self ..))]
    exact ih fun e m => hF e (List.mem_cons_of_mem _ m)
/-- a round leaves a closed list, or finds more -/
theorem fold_or {E : List Edge} : ∀ {F : List Edge} {S : Ds}, (∀ e ∈ F, e ∈ E) → (∀ e ∈ F, (Has S e.2.1 ↔ Has S e.2.2)) ∨ used E S < used E (F.foldl turn S) := by
  intro F
  induction F with
  | nil => intro S _; exact .inl fun e m => by cases m
  | cons e F ih =>
    intro S hF
    have up : ∀ p, Has S p → Has (F.foldl turn (turn S e)) p := fun p h => fold_has (turn_has h)
    have he := hF e (List.mem_cons_self ..)
    rcases turn_cases S e with ⟨q, hb⟩ | ⟨q, h1, h2, ht⟩ | ⟨q, h1, h2, ht⟩
    · rcases ih (S := S) (fun e m => hF e (List.mem_cons_of_mem _ m)) with h | h
      · refine .inl fun x m => ?_
        rcases List.mem_cons.mp m with rfl | m
        · exact hb
        · exact h x m
      · refine .inr ?_
        show used E S < used E (F.foldl turn (turn S e))
        rw [q]
        exact h
    · refine .inr (used_lt up he (fun b => ?_) ⟨up _ ⟨q, h1⟩, (fold_has (S := turn S e) ⟨q ++ [(e.1, true)], by rw [ht, lk_app, h2]; simp⟩ : Has (F.foldl turn (turn S e)) _)⟩)
      obtain ⟨st, hst⟩ := b.2
      rw [h2] at hst
      cases hst
    · refine .inr (used_lt up he (fun b => ?_) ⟨(fold_has (S := turn S e) ⟨q ++ [(e.1, false)], by rw [ht, lk_app, h1]; simp⟩ : Has (F.foldl turn (turn S e)) _), up _ ⟨q, h2⟩⟩)
      obtain ⟨st, hst⟩ := b.1
      rw [h1] at hst
      cases hst
theorem rounds_or {E : List Edge} {S : Ds} : ∀ k, Closed E (rounds E k S) ∨ k ≤ used E (rounds E k S)
  | 0 => .inr (Nat.zero_le _)
  | k + 1 => by
    rcases rounds_or (E := E) (S := S) k with h | h
    · refine .inl ?_
      show Closed E (round E (rounds E k S))
      unfold round
      rw [closed_fold h fun e m => m]
      exact h
    · rcases fold_or (E := E) (F := E) (S := rounds E k S) (fun e m => m) with c | c
      · refine .inl ?_
        show Closed E (round E (rounds E k S))
        unfold round
        rw [closed_fold c fun e m => m]
        exact c
      · exact .inr (Nat.lt_of_le_of_lt h c)
theorem all_closed {E : List Edge} {S : Ds} : Closed E (rounds E E.length S) := by
  rcases rounds_or (E := E) (S := S) E.length with h | h
  · exact h
  · intro e he
    have q : used E (rounds E E.length S) = E.length := Nat.le_antisymm used_le h
    unfold used at q
    have := List.countP_eq_length.mp q e he
    have b : Both (rounds E E.length S) e := by simpa using this
    exact ⟨fun _ => b.2, fun _ => b.1⟩
/-- what is found hangs together with p -/
theorem found_like {E : List Edge} {R : Nat → Nat} (hR : ∀ e ∈ E, R e.2.1 = R e.2.2) : ∀ {F : List Edge} {S : Ds} {p : Nat}, (∀ e ∈ F, e ∈ E) → (∀ q, Has S q → R q = R p) → ∀ q, Has (F.foldl turn S) q → R q = R p := by
  intro F
  induction F with
  | nil => intro S p _ h; exact h
  | cons e F ih =>
    intro S p hF h
    refine ih (fun e m => hF e (List.mem_cons_of_mem _ m)) fun q hq => ?_
    have he := hF e (List.mem_cons_self ..)
    obtain ⟨st, hq⟩ := hq
    rcases turn_cases S e with ⟨z, _⟩ | ⟨z, h1, h2, ht⟩ | ⟨z, h1, h2, ht⟩
    · rw [z] at hq
      exact h q ⟨st, hq⟩
    · rw [ht, lk_app] at hq
      cases hs : S.lookup q with
      | some y => exact h q ⟨y, hs⟩
      | none =>
        rw [hs] at hq
        by_cases c : q = e.2.2
        · rw [c, ← hR e he]
          exact h _ ⟨z, h1⟩
        · simp [c] at hq
    · rw [ht, lk_app] at hq
      cases hs : S.lookup q with
      | some y => exact h q ⟨y, hs⟩
      | none =>
        rw [hs] at hq
        by_cases c : q = e.2.1
        · rw [c, hR e he]
          exact h _ ⟨z, h2⟩
        · simp [c] at hq
theorem rounds_like {E : List Edge} {R : Nat → Nat} (hR : ∀ e ∈ E, R e.2.1 = R e.2.2) {S : Ds} {p : Nat} (h : ∀ q, Has S q → R q = R p) : ∀ k q, Has (rounds E k S) q → R q = R p
  | 0, q, hq => h q hq
  | k + 1, q, hq => found_like hR (fun e m => m) (rounds_like hR h k) q hq
end Ways
namespace Ways
theorem turn_len {S : Ds} {e : Edge} : (turn S e).length ≤ S.length + 1 := by
  rcases turn_cases S e with ⟨q, _⟩ | ⟨q, _, _, r⟩ | ⟨q, _, _, r⟩
  · rw [q]; omega
  · rw [r, List.length_append]; simp
  · rw [r, List.length_append]; simp
theorem fold_len : ∀ {E : List Edge} {S : Ds}, (E.foldl turn S).length ≤ S.length + E.length
  | [], S => Nat.le_refl _
  | e :: E, S => by
    have h1 := turn_len (S := S) (e := e)
    have h2 := fold_len (E := E) (S := turn S e)
    show (E.foldl turn (turn S e)).length ≤ S.length + (E.length + 1)
    omega
theorem rounds_len {E : List Edge} {S : Ds} : ∀ k, (rounds E k S).length ≤ S.length + k * E.length
  | 0 => by show S.length ≤ _; omega
  | k + 1 => by
    have h1 := rounds_len (E := E) (S := S) k
    have h2 := fold_len (E := E) (S := rounds E k S)
    show (E.foldl turn (rounds E k S)).length ≤ _
    rw [Nat.succ_mul]
    omega
def Short (S : Ds) : Prop := ∀ q st, S.lookup q = some st → st.length ≤ S.length
theorem short_turn {S : Ds} {e : Edge} (h : Short S) : Short (turn S e) := by
  have key : ∀ (b : Nat) (x : St), x.length ≤ S.length + 1 → turn S e = S ++ [(b, x)] → Short (turn S e) := by
    intro b x hx ht q st hq
    rw [ht] at hq ⊢
    rw [lk_app] at hq
    rw [List.length_append]
    cases hs : S.lookup q with
    | some y =>
      rw [hs] at hq
      have := h q y hs
      have e : y = st := Option.some.inj hq
      rw [← e]
      omega
    | none =>
      rw [hs] at hq
      by_cases c : q = b
      · have e : x = st := by simpa [c] using hq
        rw [← e]
        exact hx
      · simp [c] at hq
  rcases turn_cases S e with ⟨q, _⟩ | ⟨q, h1, _, r⟩ | ⟨q, _, h1, r⟩
  · rw [q]; exact h
  · refine key _ _ ?_ r
    have := h _ _ h1
    rw [List.length_append]
    simp only [List.length_cons, List.length_nil]
    omega
  · refine key _ _ ?_ r
    have := h _ _ h1
    rw [List.length_append]
    simp only [List.length_cons, List.length_nil]
    omega
theorem short_fold : ∀ {E : List Edge} {S : Ds}, Short S → Short (E.foldl turn S)
  | [], _, h => h
  | _ :: E, _, h => short_fold (E := E) (short_turn h)
theorem short_rounds {E : List Edge} {S : Ds} (h : Short S) : ∀ k, Short (rounds E k S)
  | 0 => h
  | k + 1 => short_fold (short_rounds h k)
theorem short0 {p : Nat} : Short [(p, [])] := by
  intro q st h
  by_cases c : q = p
  · subst c
    simp at h
    subst h
    simp
  · have : (q == p) = false := by simpa using c
    simp [List.lookup, this] at h
end Ways
namespace Hang
theorem runs_mem : ∀ {es : List (Nat × Nat)} {k : Nat} {P W : List Nat} {x : Nat}, x ∈ W → x ∈ (runs es k P W).2
  | [], _, _, _, _, h => h
  | (a, b) :: es, k, P, W, x, h => by
    show x ∈ (if P.getD a 0 = P.getD b 0 then runs es (k + 1) P W else runs es (k + 1) (step P (P.getD a 0) (P.getD b 0)) (W ++ [k])).2
    by_cases q : P.getD a 0 = P.getD b 0
    · rw [if_pos q]; exact runs_mem h
    · rw [if_neg q]; exact runs_mem (List.mem_append_left _ h)
theorem runs_eq {n : Nat} : ∀ {es : List (Nat × Nat)} {k : Nat} {P W : List Nat} {i j : Nat}, (∀ e ∈ es, e.1 < n ∧ e.2 < n) → P.length = n → i < n → j < n → P.getD i 0 = P.getD j 0 → (runs es k P W).1.getD i 0 = (runs es k P W).1.getD j 0
  | [], _, _, _, _, _, _, _, _, _, h => h
  | (a, b) :: es, k, P, W, i, j, hes, l, hi, hj, h => by
    have hes' : ∀ e ∈ es, e.1 < n ∧ e.2 < n := fun e m => hes e (List.mem_cons_of_mem _ m)
    have eR : runs ((a, b) :: es) k P W = if P.getD a 0 = P.getD b 0 then runs es (k + 1) P W else runs es (k + 1) (step P (P.getD a 0) (P.getD b 0)) (W ++ [k]) := rfl
    rw [eR]
    by_cases q : P.getD a 0 = P.getD b 0
    · rw [if_pos q]
      exact runs_eq hes' l hi hj h
    · rw [if_neg q]
      refine runs_eq hes' (by rw [len_step]; exact l) hi hj ?_
      rw [at_step (by omega), at_step (by omega), h]
/-- both ends of a tie hang together -/
theorem same_end {n : Nat} : ∀ {es : List (Nat × Nat)} {k : Nat} {P W : List Nat}, (∀ e ∈ es, e.1 < n ∧ e.2 < n) → P.length = n → ∀ e ∈ es, (runs es k P W).1.getD e.1 0 = (runs es k P W).1.getD e.2 0
  | [], _, _, _, _, _, e, he => by cases he
  | (a, b) :: es, k, P, W, hes, l, e, he => by
    have hes' : ∀ e ∈ es, e.1 < n ∧ e.2 < n := fun e m => hes e (List.mem_cons_of_mem _ m)
    obtain ⟨ha, hb⟩ : a < n ∧ b < n := hes (a, b) (List.mem_cons_self ..)
    have eR : runs ((a, b) :: es) k P W = if P.getD a 0 = P.getD b 0 then runs es (k + 1) P W else runs es (k + 1) (step P (P.getD a 0) (P.getD b 0)) (W ++ [k]) := rfl
    rw [eR]
    by_cases q : P.getD a 0 = P.getD b 0
    · rw [if_pos q]
      rcases List.mem_cons.mp he with rfl | he
      · exact runs_eq hes' l ha hb q
      · exact same_end hes' l e he
    · rw [if_neg q]
      rcases List.mem_cons.mp he with rfl | he
      · refine runs_eq (i := a) (j := b) hes' (by rw [len_step]; exact l) ha hb ?_
        show (step P (P.getD a 0) (P.getD b 0)).getD a 0 = (step P (P.getD a 0) (P.getD b 0)).getD b 0
        rw [at_step (by omega), at_step (by omega)]
        by_cases c : P.getD a 0 = max (P.getD a 0) (P.getD b 0)
        · rw [if_pos c, if_neg (by omega)]
          omega
        · rw [if_neg c, if_pos (by omega)]
          omega
      · exact same_end hes' (by rw [len_step]; exact l) e he
/-- what the wood keeps apart or not, the marks do -/
theorem conn {n : Nat} {X : Nat → Prop} : ∀ {es : List (Nat × Nat)} {k : Nat} {P W : List Nat}, (∀ e ∈ es, e.1 < n ∧ e.2 < n) → P.length = n → (∀ j a b, es[j]? = some (a, b) → k + j ∈ (runs es k P W).2 → (X a ↔ X b)) →
    (∀ i j, i < n → j < n → P.getD i 0 = P.getD j 0 → (X i ↔ X j)) → ∀ i j, i < n → j < n → (runs es k P W).1.getD i 0 = (runs es k P W).1.getD j 0 → (X i ↔ X j)
  | [], _, _, _, _, _, _, h => h
  | (a, b) :: es, k, P, W, hes, l, hw, h => by
    have hes' : ∀ e ∈ es, e.1 < n ∧ e.2 < n := fun e m => hes e (List.mem_cons_of_mem _ m)
    obtain ⟨ha, hb⟩ : a < n ∧ b < n := hes (a, b) (List.mem_cons_self ..)
    have eR : runs ((a, b) :: es) k P W = if P.getD a 0 = P.getD b 0 then runs es (k + 1) P W else runs es (k + 1) (step P (P.getD a 0) (P.getD b 0)) (W ++ [k]) := rfl
    rw [eR] at hw ⊢
    have sh : ∀ j, k + (j + 1) = k + 1 + j := fun j => by omega
    by_cases q : P.getD a 0 = P.getD b 0
    · rw [if_pos q] at hw ⊢
      exact conn hes' l (fun j c d hj hm => hw (j + 1) c d (by simpa using hj) (by rw [show k + (j + 1) = k + 1 + j from by omega]; exact hm)) h
    · rw [if_neg q] at hw ⊢
      have hab : X a ↔ X b := hw 0 a b rfl (runs_mem (List.mem_append_right _ (by simp)))
      refine conn hes' (by rw [len_step]; exact l) (fun j c d hj hm => hw (j + 1) c d (by simpa using hj) (by rw [show k + (j + 1) = k + 1 + j from by omega]; exact hm)) fun i j hi hj hij => ?_
      rw [at_step (by omega), at_step (by omega)] at hij
      have toA : ∀ m, m < n → P.getD m 0 = P.getD a 0 → (X m ↔ X a) := fun m hm e => h m a hm ha e
      have toB : ∀ m, m < n → P.getD m 0 = P.getD b 0 → (X m ↔ X b) := fun m hm e => h m b hm hb e
      have side : ∀ m, m < n → (P.getD m 0 = max (P.getD a 0) (P.getD b 0) ∨ P.getD m 0 = min (P.getD a 0) (P.getD b 0)) → (X m ↔ X a) := fun m hm e => by
        by_cases c : P.getD m 0 = P.getD a 0
        · exact toA m hm c
        · exact (toB m hm (by omega)).trans hab.symm
      by_cases c1 : P.getD i 0 = max (P.getD a 0) (P.getD b 0)
      · rw [if_pos c1] at hij
        by_cases c2 : P.getD j 0 = max (P.getD a 0) (P.getD b 0)
        · exact (side i hi (.inl c1)).trans (side j hj (.inl c2)).symm
        · rw [if_neg c2] at hij
          exact (side i hi (.inl c1)).trans (side j hj (.inr hij.symm)).symm
      · rw [if_neg c1] at hij
        by_cases c2 : P.getD j 0 = max (P.getD a 0) (P.getD b 0)
        · rw [if_pos c2] at hij
          exact (side i hi (.inr hij)).trans (side j hj (.inl c2)).symm
        · rw [if_neg c2] at hij
          exact h i j hi hj hij
/-- the wood's ties by number -/
def woodE (es : List (Nat × Nat)) (W : List Nat) : List Ways.Edge := W.map fun k => (k, es.getD k (0, 0))
/-- what is found from a place is just its piece -/
theorem way_piece {n : Nat} {es : List (Nat × Nat)} (hes : ∀ e ∈ es, e.1 < n ∧ e.2 < n) (hW : ∀ k ∈ (hung n es).2, k < es.length) {p q : Nat} (hp : p < n) (hq : q < n) :
    Ways.Has (Ways.rounds (woodE es (hung n es).2) (woodE es (hung n es).2).length [(p, [])]) q ↔ (hung n es).1.getD p 0 = (hung n es).1.getD q 0 := by
  have len : (List.range n).length = n := List.length_range
  have at1 : ∀ k, k < es.length → es.getD k (0, 0) ∈ es := fun k h => by
    rw [List.getD_eq_getElem?_getD, List.getElem?_eq_getElem h]
    exact List.getElem_mem ..
  have h0 : Ways.Has (Ways.rounds (woodE es (hung n es).2) (woodE es (hung n es).2).length [(p, [])]) p := by
    have g := Ways.Good.rounds (E := woodE es (hung n es).2) (p := p) (en := fun k => es.getD k (0, 0)) (fun e he => by
      obtain ⟨k, _, rfl⟩ := List.mem_map.mp he
      rfl) (k := (woodE es (hung n es).2).length) Ways.good0
    exact ⟨[], g.start⟩
  constructor
  · intro h
    have := Ways.rounds_like (E := woodE es (hung n es).2) (R := fun i => (hung n es).1.getD i 0) (S := [(p, [])]) (p := p) (fun e he => by
      obtain ⟨k, hk, rfl⟩ := List.mem_map.mp he
      exact same_end hes len _ (at1 k (hW k hk))) (fun r hr => by
      obtain ⟨st, hr⟩ := hr
      by_cases c : r = p
      · rw [c]
      · have : (r == p) = false := by simpa using c
        simp [List.lookup, this] at hr) _ q h
    exact this.symm
  · intro h
    have cl := Ways.all_closed (E := woodE es (hung n es).2) (S := [(p, [])])
    refine (conn (X := fun r => Ways.Has (Ways.rounds (woodE es (hung n es).2) (woodE es (hung n es).2).length [(p, [])]) r) (es := es) (k := 0) (P := List.range n) (W := []) hes len (fun j a b hj hm => ?_) (fun i j hi hj e => ?_) p q hp hq h).mp h0
    · rw [Nat.zero_add] at hm
      have hm : j ∈ (hung n es).2 := hm
      have e : es.getD j (0, 0) = (a, b) := by rw [List.getD_eq_getElem?_getD, hj]; rfl
      have := cl (j, es.getD j (0, 0)) (List.mem_map.mpr ⟨j, hm, rfl⟩)
      rw [e] at this
      exact this
    · have : ∀ m, m < n → (List.range n).getD m 0 = m := fun m hm => by
        rw [List.getD_eq_getElem?_getD, List.getElem?_range hm]
        rfl
      rw [this i hi, this j hj] at e
      rw [e]
theorem runs_wood : ∀ {es : List (Nat × Nat)} {k : Nat} {P W : List Nat} {m : Nat}, (∀ x ∈ W, x < m) → k + es.length ≤ m → ∀ x ∈ (runs es k P W).2, x < m
  | [], _, _, _, _, h, _, x, hx => h x hx
  | (a, b) :: es, k, P, W, m, h, hk, x, hx => by
    rw [List.length_cons] at hk
    have eR : runs ((a, b) :: es) k P W = if P.getD a 0 = P.getD b 0 then runs es (k + 1) P W else runs es (k + 1) (step P (P.getD a 0) (P.getD b 0)) (W ++ [k]) := rfl
    rw [eR] at hx
    by_cases q : P.getD a 0 = P.getD b 0
    · rw [if_pos q] at hx
      exact runs_wood h (by omega) x hx
    · rw [if_neg q] at hx
      refine runs_wood (fun y hy => ?_) (by omega) x hx
      rcases List.mem_append.mp hy with hy | hy
      · exact h y hy
      · have : y = k := by simpa using hy
        omega
theorem wood_lt {n : Nat} {es : List (Nat × Nat)} : ∀ k ∈ (hung n es).2, k < es.length := runs_wood (fun x h => by cases h) (by omega)
end Hang
namespace PySem.W
open PySem PySem.Spec PySem.Calls PyProof.Rows Builtin Builtin.ObjectAttr Builtin.Getset_descriptor
section
variable {prog : Program} {w : World} {A : Around} {E : Value → Shared → Prop} {s : Shared} {K : Frag}
/-- self.__class__, self an exception that is being made -/
theorem st_class {x C : Addr} {ox : Obj} {expr : Bool} {Q : Value → Shared → Prop} (T : L2.ExcC K C) (X : K.In s.heap) (I : InstAt s.heap x ox C none) (h : Q (.ref C) { s with toks := s.toks + 1 }) :
    wpAny (model prog w) A (getAttr (.ref x) "__class__" expr) Q E s := by
  have some1 : (clsIn K C).isSome = true := by
    obtain ⟨cd, hc, _⟩ := any_some T.hd
    rw [hc]
    rfl
  have found := findObj_dataN some1 T.ha T.hn T.ht
  obtain ⟨hh, g, dr, tk, os⟩ := s
  have l0 := I.type (M := model prog w)
  have l1 := looks_findIn (M := model prog w) X T.hg
  have l2 := looks_findIn (M := model prog w) X T.hk
  have l3 := looks_find (M := model prog w) X I found
  have isB : Looks (model prog w) hh (isInstance (.ref x) (.type "BaseException")) true := l0.andThen (looks_subIn X T.hs)
  have ne1 : (Value.builtin "BaseException.__getattribute__" == Value.builtin "object.__getattribute__") = false := by decide +kernel
  have b0 : (expr && onTheHeap (Value.builtin "BaseException.__getattribute__")) = false := by
    cases expr <;> rfl
  have b1 : (onTheHeap (Value.ref C) && Value.builtin "BaseException.__getattribute__" == Value.builtin "object.__getattribute__") = false := by
    rw [ne1]
    rfl
  unfold getAttr getAttrBy
  refine wpAny_bind (wpAny_mkText (wpAny_holding (wpAny_bind (l0.at (wpAny_bind (l1.at ?_))))))
  dsimp only
  rw [b1, if_neg Bool.false_ne_true]
  unfold getAttrByItsOwn
  refine wpAny_bind ?_
  unfold hookBefore
  rw [if_pos (show onTheHeap (Value.ref C) = true from rfl)]
  refine l2.at (wpAny_bind (wpAny_attempt (wpAny_holding ?_)))
  unfold callGetattribute
  rw [b0, if_neg Bool.false_ne_true]
  unfold boundAndCalled
  rw [PySem.F.excAttr_ValueError.ga.bind (.ref x)]
  refine wpAny_bind (wpAny_pure ?_)
  refine wpAny_call (codeAny_call_builtin (args := ⟨[.ref x, .str "__class__" tk], []⟩) PySem.F.excAttr_ValueError.ga.plain PySem.F.entry_bexc_ga ?_)
  refine @check_slot (model prog w) _ _ ⟨hh, g, dr, tk + 1, os⟩ "BaseException.__getattribute__" "BaseException" "__getattribute__" (.ref x) [.str "__class__" tk] [] _ (by decide +kernel) (by decide +kernel) isB (PySem.F.args_bexc_ga _ _) ?_
  unfold Builtin.«object.__getattribute__»
  refine wpAny_bind (wpAny_of_eq (a := ((Value.ref x : Value), [Value.str "__class__" tk])) (by first | rfl | (simp only [slotArgs]; rfl)) ?_)
  refine wpAny_bind (wpAny_pure (wpAny_bind (l0.at (wpAny_bind (l3.at ?_)))))
  dsimp only
  refine wpAny_bind (wpAny_holding (wpAny_call (class_get (s := ⟨hh, g, dr, tk + 1, os⟩) (ox := ox) (od := none) X I T.hm ?_)))
  refine wpAny_pure ?_
  show wpAny _ _ (handedOut (.ref C)) _ _ _
  rw [handedOut_of (v := .ref C) rfl]
  first
    | exact wpAny_pure h
    | exact wpAny_pure (wpAny_pure h)
/-- C.__name__, C a class of the program -/
theorem st_dga (d tp : Value) (C : Addr) : descrGetArgs ⟨[d, .ref C, tp], []⟩ = pure (d, some (.ref C), given tp) := by kernel_rfl
theorem st_name_get {C : Addr} {tp nv : Value} {ob : Obj} {R : Result → Shared → Prop} (X : K.In s.heap) (ht : typeIn K (.ref C) = some (.type "type")) (ho : s.heap.get? C = some ob) (hs : ob.slots[2]? = some (some nv))
    (h : R (.ok (.ret nv)) s) : codeAny (model prog w) A (.call (.builtin "getset_descriptor.__get__") ⟨[.builtin "type.__name__", .ref C, tp], []⟩) R s := by
  obtain ⟨hh, g, dr, tk, os⟩ := s
  have L0 : Looks (model prog w) hh (typeOf (.ref C)) (.type "type") := looks_typeIn X ht
  have L1 : Looks (model prog w) hh (isSubtype (.type "type") (.type "type")) true := Looks.of_pure (by rw [isSubtype_type]; kernel_rfl)
  refine codeAny_call_builtin KF.slot_gs.plain KF.entry_gs (KF.slot_gs.check _ _ _ _ _ _ _ _ ktyn_type (KF.args_gs _ _ _) ?_)
  unfold Builtin.«getset_descriptor.__get__» descrGet
  rw [st_dga]
  refine wpAny_bind (wpAny_pure ?_)
  unfold descrGetter descrCheckInstance descrNameAndClass isInstance
  simp only [ktyn_owner]
  repeat lk
  refine ⟨Code.quiet_builtin _ (by decide +kernel), codeAny_builtin ktyn_entry ?_⟩
  unfold Builtin.«type.__name__»
  dsimp only
  unfold keptObject slotAt
  have e : (ob.slots[2]?).join = some nv := by rw [hs]; rfl
  refine wpAny_bind (wpAny_bind (wpAny_loadPart_at ho (wpAny_pure ?_)))
  rw [e]
  first
    | exact wpAny_pure h
    | exact wpAny_bind (wpAny_pure (wpAny_pure h))
    | exact wpAny_bind (wpAny_pure h)
end
end PySem.W
namespace L2
open PySem PySem.Spec PyProof.Rows
/-! ### try with several clauses «except C as n», all of one name n -/
abbrev Clause := Value × (Addr → Value → Option Addr → TS)
/-- the ends of a suite that had the name in slot i: it is empty behind -/
def endsOff (i : Nat) (D : Ends) : Ends := { nx := fun σ H => D.nx (σ.set i none) H, rt := D.rt, bk := fun σ H => D.bk (σ.set i none) H, ct := fun σ H => D.ct (σ.set i none) H }
def wClauses (K : PySem.W.Frag) (i : Nat) (W0 : WX) (D : Ends) : List Clause → WX
  | [] => W0
  | p :: r => fun cls d σ H => ∃ b, PySem.W.exmOne K cls p.1 = some b ∧ (b = true → ∀ a, H a = none → p.2 a cls d (endsOff i D) (σ.set i (some (.ref a))) H) ∧ (b = false → wClauses K i W0 D r cls d σ H)
inductive ClausesOk (X : Cx) (n : Str) : List ExceptHandler → List Clause → Prop
  | nil : ClausesOk X n [] []
  | cons {x : Str} {c : Value} {ts : Addr → Value → Option Addr → TS} {st0 : Stmt} {sts : List Stmt} {p1 p2 : Pos} {hds : List ExceptHandler} {l : List Clause} (hc : Names X x c)
      (hsu : ∀ (a : Addr) (oe : Obj) (cls : Value) (d : Option Addr) (pn : List (Addr × Obj)), Zc cls d oe → (∃ vs, oe.data = .fields vs) → PSs (X.suite a ((a, oe) :: pn)) (st0 :: sts) (ts a cls d))
      (r : ClausesOk X n hds l) : ClausesOk X n (.ExceptHandler (some (.Name x p1)) (some n) (st0 :: sts) p2 :: hds) ((c, ts) :: l)
section
variable {X : Cx} {n : Str} {i : Nat} {body : List Stmt} {hd0 : ExceptHandler} {hds : List ExceptHandler} {l : List Clause} {pos : Pos} {tb : WX → TS} {W0 : WX}
theorem ps_try_clauses (hst : X.stack = X.env :: X.outer) (hfm : X.env.frame = some X.env.locals) (hnd : X.N.Nodup) (hi : X.N[i]? = some n) (hln : X.env.kindOf n = some .local) (tk : Takes X W0)
    (hb : ∀ (W : WX) (pn : List (Addr × Obj)) (xe : Value → Shared → Prop), Takes (X.tr pn xe) W → PassesOwn (model X.prog X.w) X.A X.env xe → PSs (X.tr pn xe) body (tb W))
    (hh : ClausesOk X n (hd0 :: hds) l) : PS X (.Try body (hd0 :: hds) [] [] pos) (fun D σ H => tb (wClauses X.K i W0 D l) D σ H) := by
  refine ⟨fun pins st σ H D Iv hyp => ?_⟩
  have okX := Iv.ok
  have frs1 : X.A.frames = some (X.env :: X.outer) := by
    rw [okX.frames]
    rw [hst]
  have locN : Loc X.env.scope n := .inl hln
  refine wpAny_Try_except (wpAny_mono ((hb (wClauses X.K i W0 D l) (X.pn ++ pins) (fun ev t1 => wpAny (model X.prog X.w) X.A (noteFrame ev X.env)
    (fun _ t2 => wpAny (model X.prog X.w) X.A (setFlight ev none) (fun _ t3 => wpAny (model X.prog X.w) X.A (handleBy ev X.env (hd0 :: hds)) (SP X pins D) X.xe t3) X.xe t2) X.xe t1)
    (fun uv t0 caught => ?_) PassesOwn.looking).run [] st σ H D (Iv.toTry _) hyp) (fun fl t1 sp1 => ?_) (fun _ _ z => z))
  · obtain ⟨ea, Gr, tI, pins2, σ2, H2, cls, dd, rfl, Jt, nbare, upb, skyb, nea, osb, agb, wish⟩ := caught
    have Jv : Inv X pins σ2 H2 tI := Jt.ofTry okX
    have sky2 : Sky Gr (X.env :: X.outer) ea (Zc cls dd) X.env.locals t0.heap := by
      rw [← hst]
      exact skyb
    refine Sky.land Zc.steady frs1 hfm sky2 fun g3 fly3 up3 => ?_
    have Jv3 : Inv X pins σ2 H2 { t0 with heap := g3 } := Jv.landed nbare fly3.1 (upb.trans up3) osb agb
    obtain ⟨o3, f3, get3, zc3, dat3⟩ := fly3.there
    have nfr : ea ∉ frs (X.env :: X.outer) := fun hm => by
      obtain ⟨_, oq, eq', hq⟩ := fly3.2.2.1.mem hm
      rw [get3] at eq'
      cases eq'
      exact hq _ dat3
    have nLoc : ea ≠ X.env.locals := fun z => nfr (List.mem_filterMap.mpr ⟨X.env, List.mem_cons_self, by rw [hfm, z]⟩)
    have nFs : ea ∉ X.fs := fun hm => by
      obtain ⟨ev, hev, q⟩ := List.mem_filterMap.mp hm
      exact nfr (List.mem_filterMap.mpr ⟨ev, List.mem_cons_of_mem _ hev, q⟩)
    have Sv3 := Jv3.suite get3 dat3 nea nLoc nFs
    have run : ∀ {hq : List ExceptHandler} {lq : List Clause}, ClausesOk X n hq lq → wClauses X.K i W0 D lq cls dd σ2 H2 → wpAny (model X.prog X.w) X.A (handleBy (.ref ea) X.env hq) (SP X pins D) X.xe { t0 with heap := g3 } := by
      intro hq lq hk
      induction hk with
      | nil =>
        intro wq
        refine wpAny_handleBy_nil ?_
        obtain ⟨_, _, _, oq, vq, T, oT, tq, geq, zq, dq, h1q, hrq⟩ := id fly3
        unfold PySem.passOn
        refine wpAny_bind (wpAny_field geq dq h1q ?_)
        rw [if_neg (show ¬ ((Value.ref T == Value.none) = true) by simp)]
        have out : wpAny (model X.prog X.w) X.A (setFlight (.ref ea) X.env.frame) (fun _ t4 => wpAny (model X.prog X.w) X.A (throw (.ref ea) : Sem Flow) (SP X pins D) X.xe t4) X.xe { t0 with heap := g3 } := by
          rw [hfm]
          refine HandSPX.setFlight_upZ fly3 fun g4 hg4 up4 => wpAny_throw (tk _ _ ?_)
          exact ⟨ea, Gr, tI, pins, σ2, H2, cls, dd, rfl, Jv, nbare, (upb.trans up3).trans up4, .inr (.inr (by rw [hst]; exact hg4)), nea, osb, agb, wq⟩
        first
          | exact wpAny_bind out
          | exact wpAny_bind (wpAny_pure (wpAny_bind out))
      | @cons xq cq tsq stq stsq p1 p2 hdq lq hcq hsq rq ih =>
        intro wq
        obtain ⟨b, eb, yes, no⟩ := wq
        refine wpAny_handleBy_cons (codeAny_handlers_test ?_) (fun q => by cases q)
        have lookT : PySem.W.Looks (model X.prog X.w) g3 (typeOf (.ref ea)) cls := fun A1 Q1 E1 s1 kq qq => wpAny_typeOf_ref (kq _ _ get3) (by rw [zc3.1]; exact qq)
        have lookM := PySem.W.exm_one (M := model X.prog X.w) Jv3.kIn lookT eb
        have named : ∀ {Q1 E1 : Value → Shared → Prop}, Q1 cq { t0 with heap := g3 } → wpAny (model X.prog X.w) (X.A.mark (some (.ref ea))) (eval (.Name xq p1) X.env) Q1 E1 { t0 with heap := g3 } := by
          intro Q1 E1 qq
          obtain ⟨g1, g2, g4 | ⟨g4, g5, g6⟩⟩ := hcq
          · exact ld_glob (X := X.suite ea ((ea, o3) :: (X.pn ++ pins))) Sv3 g1 g4 qq g2
          · exact ld_blt (X := X.suite ea ((ea, o3) :: (X.pn ++ pins))) Sv3 g1 g4 g5 qq g6 g2
        refine named (lookM.here ?_)
        cases b with
        | false =>
          show wpAny _ X.A (handleBy (.ref ea) X.env hdq) _ _ _
          exact ih (no rfl)
        | true =>
          refine codeAny_handlers_suite_as (HandSPX.lands_againZ fly3 fun g4 fly4 up4 => ?_)
          have Jv4 : Inv X pins σ2 H2 { t0 with heap := g4 } := Jv.landed nbare fly4.1 ((upb.trans up3).trans up4) osb agb
          obtain ⟨o4, f4, get4, zc4, dat4⟩ := fly4.there
          have Sv4 := Jv4.suite get4 dat4 nea nLoc nFs
          refine store_ok (X := X.suite ea ((ea, o4) :: (X.pn ++ pins))) (v := .ref ea) Sv4 hnd hi locN rfl (fun t5 Sv5 => ?_) (.inr hln)
          refine wpAny_mono ((hsq ea o4 cls dd (X.pn ++ pins) zc4 ⟨_, dat4⟩).run [] t5 _ H2 _ Sv5 (yes rfl ea nea)) (fun fl t6 sp6 => ?_) (fun _ _ z => z.elim)
          have off : ∀ {σ6 : St} {H6 : Hp} {Q : Shared → Prop}, Inv (X.suite ea ((ea, o4) :: (X.pn ++ pins))) [] σ6 H6 t6 → (∀ t7, Inv X pins (σ6.set i none) H6 t7 → Q t7) →
              wpAny (model X.prog X.w) X.A (do bindName X.env n .none; unbindBehindTheSuite X.env n p2) (fun _ t7 => Q t7) X.xe t6 := fun {_ _ _} S6 hq => gone_ok (S6.unsuite okX) hnd hi hln hq
          cases fl with
          | ret u =>
            obtain ⟨v6, σ6, H6, S6, r6, q6⟩ := sp6
            exact off S6 fun t7 J7 => ⟨_, _, _, J7, r6, q6⟩
          | next =>
            obtain ⟨σ6, H6, S6, q6⟩ := sp6
            exact off S6 fun t7 J7 => ⟨_, _, J7, q6⟩
          | brk =>
            obtain ⟨σ6, H6, S6, q6⟩ := sp6
            exact off S6 fun t7 J7 => ⟨_, _, J7, q6⟩
          | cont =>
            obtain ⟨σ6, H6, S6, q6⟩ := sp6
            exact off S6 fun t7 J7 => ⟨_, _, J7, q6⟩
    exact run hh wish
  · cases fl with
    | ret u =>
      obtain ⟨v1, σ1, H1, J1, r1, q1⟩ := sp1
      exact ⟨v1, σ1, H1, J1.ofTry okX, r1, q1⟩
    | next =>
      obtain ⟨σ1, H1, J1, q1⟩ := sp1
      exact wpAny_execs_nil ⟨σ1, H1, J1.ofTry okX, q1⟩
    | brk =>
      obtain ⟨σ1, H1, J1, q1⟩ := sp1
      exact ⟨σ1, H1, J1.ofTry okX, q1⟩
    | cont =>
      obtain ⟨σ1, H1, J1, q1⟩ := sp1
      exact ⟨σ1, H1, J1.ofTry okX, q1⟩
end
/-! ### self.__class__ and C.__name__ -/
structure CName (K : PySem.W.Frag) (C : Addr) (nm : Str) : Prop where
  ht : PySem.W.typeIn K (.ref C) = some (.type "type")
  hr : PySem.W.readsIn K C (.type "type") = true
  hf : PySem.W.findCls K (.ref C) (.type "type") "__name__" = some (.get (.builtin "getset_descriptor.__get__") (.builtin "type.__name__") (.ref C) (.type "type"))
  ob : ∃ (ob : Obj) (tk : Tok), K.lookup C = some ob ∧ ob.slots[2]? = some (some (.str nm tk))
def tClassOf (K : PySem.W.Frag) (te : TE) : TE := fun σ H Q => te σ H fun x H1 => ∃ a C : Addr, x = .ref a ∧ H1 a = some (exo a C none) ∧ ExcC K C ∧ Q (.ref C) H1
def tNameOf (K : PySem.W.Frag) (te : TE) : TE := fun σ H Q => te σ H fun x H1 => ∃ (C : Addr) (nm : Str), x = .ref C ∧ CName K C nm ∧ Q (.str nm) H1
section
variable {X : Cx} {e : Expr} {te : TE} {pos : Pos}
theorem pe_classOf (he : PE X e te) (hb : attributeBase e "__class__" X.env (eval e X.env) = eval e X.env := by rfl) : PE X (.Attribute e "__class__" pos) (tClassOf X.K te) := by
  refine ⟨fun pins s σ H Q I h => ?_⟩
  refine attr_of hb (thn (he.run pins s σ H _ I h) fun u s1 ⟨x, H1, I1, rx, a, C, ex, ea, T, q⟩ => ?_)
  subst ex
  obtain rfl : u = Value.ref a := rx
  obtain ⟨t1, ho⟩ := exo_at I1.hok ea
  exact PySem.W.st_class T I1.kIn (ox := { cls := .ref C, dict := none, data := .fields #[.ref t1, .none, .none, .none, .bool false, .none] }) ⟨ho, rfl, rfl, trivial⟩ ⟨.ref C, H1, I1.tok _, rfl, q⟩
theorem pe_nameOf (he : PE X e te) (hb : attributeBase e "__name__" X.env (eval e X.env) = eval e X.env := by rfl) : PE X (.Attribute e "__name__" pos) (tNameOf X.K te) := by
  refine ⟨fun pins s σ H Q I h => ?_⟩
  refine attr_of hb (thn (he.run pins s σ H _ I h) fun u s1 ⟨x, H1, I1, rx, C, nm, ex, T, q⟩ => ?_)
  subst ex
  obtain rfl : u = Value.ref C := rx
  obtain ⟨ob, tk, ho, hs⟩ := T.ob
  refine PySem.W.cls_bind I1.kIn T.hr T.hf (wpAny_call (PySem.W.st_name_get (s := { s1 with toks := s1.toks + 1 }) I1.kIn T.ht (I1.kIn _ _ ho) hs ?_))
  exact PySem.W.handed_on rfl ⟨.str nm, H1, I1.tok _, ⟨_, rfl⟩, q⟩
end
end L2
namespace LamX
open PySem PySem.Spec PyProof.Rows L2
section
variable {X : Cx} {pins : List (Addr × Obj)} {σ : L2.St} {H : Hp} {s : Shared}
/-- a(), a the lambda that was got; what it lets out is wished for at the slots as they stand then -/
theorem pe_askS {CXg : CXT} {Eg : XK} {Ng : List Str} {qg : Str} {sg : Scope} {g f c' : Addr} {cdg pm ctv : Value} {params : Arguments} {body : Expr} {scope : Scope} {k i : Nat} {a : Str} {pn : List (Addr × Obj)} {xe : Value → Shared → Prop} {W : WX} {tb : XK → TE} {p1 p2 : Pos}
    (Iv : Inv X pins σ H s) (L : LamS X.env.scope scope) (hf : s.heap.get? f = some (PySem.W.kla_obj "<lambda>" (X.env.qual ++ "<lambda>") params body scope (cloFrom X.env.cells scope.names []) pm c' ctv)) (hfn : H f = none) (hfr : f ∉ frs X.stack)
    (hbind : bindArgs (PySem.W.kla_fn "<lambda>" (X.env.qual ++ "<lambda>") params body scope (cloFrom X.env.cells scope.names []) pm (.ref c') ctv) ⟨[], []⟩ = pure [])
    (tk : Takes ((cxOf CXg X.prog X.w X.K X.mg X.base Ng qg sg g cdg X.A X.stack s H Eg).tr pn xe) W) (hr : Room (k + 1) (X.A.deeper (envOfC qg sg s.heap.objs.size g cdg)))
    (hbody : ∀ (A : Around) (outer : List Env) (s : Shared) (H : Hp) (E : XK), Room k (A.deeper (lamEnv X scope s.heap.objs.size f c')) → PE (lamCx X A outer s H E scope f c') body (tb E))
    (hN : Ng[i]? = some a) (hv : Vis sg a) (hd : (a == ("__debug__" : Str)) = false := by decide) (hcd : (a == ("__classdict__" : Str)) = false := by decide) :
    PE ((cxOf CXg X.prog X.w X.K X.mg X.base Ng qg sg g cdg X.A X.stack s H Eg).tr pn xe) (.Call (.Name a p1) [] [] p2)
      (fun σ0 H0 Q => σ0[i]? = some (some (.ref f)) ∧ H0 c' = some (CodeO c' (X.env.qual ++ "<lambda>")) ∧ tb (WE W σ0) σ H0 Q) := by
  refine ⟨fun pins0 s0 σ0 H0 Q I0 hyp => ?_⟩
  obtain ⟨hsl, hco, hread⟩ := hyp
  refine wpAny_Call_Name_kw (thn ((pe_var (pos := p1) (i := i) hN hv hd hcd).run pins0 s0 σ0 H0 (fun v H1 => v = .ref f ∧ H1 = H0) I0 ⟨.ref f, hsl, rfl, rfl⟩) fun u s1 got => ?_)
  obtain ⟨v, H1, I1, rel1, ev, eH⟩ := got
  subst ev
  rw [eH] at I1
  obtain rfl : u = Value.ref f := rel1
  have at1 : s1.heap.get? f = some (PySem.W.kla_obj "<lambda>" (X.env.qual ++ "<lambda>") params body scope (cloFrom X.env.cells scope.names []) pm c' ctv) :=
    I1.base.keep f _ hf hfn hfr (fun z => by cases z)
  refine PySem.W.callWith_F0 ⟨_, _, _, _, at1⟩ ?_
  have base1 : Un (frs X.stack) [] H H0 s.heap s1.heap := I1.base
  obtain ⟨⟨oc, vs, tt, hoc, hdc, hvc⟩, _, _⟩ := I1.hok c' _ hco
  have runs : codeAny (model X.prog X.w) (X.A.deeper (envOfC qg sg s.heap.objs.size g cdg)) (.call (.ref f) ⟨[], []⟩)
      (CR (L2.CX X.prog X.w) (envOfC qg sg s.heap.objs.size g cdg :: X.stack) X.prog X.w H0 s1 Q (WE W σ0)) s1 := by
    refine PySem.W.kla_callFunE hr.depth at1 rfl L.co L.gen rfl ⟨c', oc, vs, tt, rfl, hoc, hdc, hvc⟩ ?_
    rw [hbind]
    refine wpAny_pure (wpAny_newFunctionEnv (fun y hy => (L.own y hy).2) (fun y hy => by cases hy) (fun h1 hns hsb => ⟨I1.nolimit.fresh _ hsb, ?_⟩) L.kind)
    show codeAny _ _ (.expr body (lamEnv X scope s1.heap.objs.size f c')) _ _
    have keeps1 : ∀ b o, s1.heap.get? b = some o → h1.get? b = some o := fun b o e =>
      hsb.extBut b o (Nat.ne_of_lt (Heap.lt_size e)) (Heap.get?_push_of_some _ e)
    have J := lam_start2 (E := WE W σ0) (c' := c') (f := f) (h₁ := h1) (tk := s1.toks + ([] : List (Str × Value)).length) Iv L I1.env0 hr.hd base1 hns keeps1
    refine PySem.W.kla_codeExpr (wpAny_mono ((hbody _ _ s1 H0 (WE W σ0) (hr.deeper _)).run [] _ _ H0 Q J hread) (fun v2 s2 q2 => ?_) fun _ _ q => q)
    obtain ⟨w2, H2, J2, rel2, q3⟩ := q2
    exact ⟨w2, H2, J2.os, J2.bare, J2.base, J2.hok, rel2, q3⟩
  refine wpAny_call (codeAny_mono runs fun r s2 hq => ?_)
  cases r with
  | error e => exact passAt tk σ0 pins0 H0 s1 e s2 I1 hq
  | ok fl =>
    cases fl with
    | ret u => exact I1.after hq
    | next => exact False.elim hq
    | brk => exact False.elim hq
    | cont => exact False.elim hq
end
/-- the def that asks what it got: a asks; TT: what it makes of the lambda's reading -/
def AsksOf (X : Cx) (Ng : List Str) (x : Str) (sg : Scope) (g : Addr) (cdg : Value) (bg : List Stmt) (a : Str) (q : Str) (TT : (XK → Hp → VK → Prop) → Hp → VK → Prop) : Prop :=
  ∀ (f c' : Addr) (s : Shared) (H : Hp) (Q : VK) (tl : XK → Hp → VK → Prop),
    (∀ (W : WX) (pn : List (Addr × Obj)) (xe : Value → Shared → Prop) (p1 p2 : Pos), Takes ((cxOf C8.CX0 X.prog X.w X.K X.mg X.base Ng x sg g cdg X.A X.stack s H C8.E0).tr pn xe) W →
      PE ((cxOf C8.CX0 X.prog X.w X.K X.mg X.base Ng x sg g cdg X.A X.stack s H C8.E0).tr pn xe) (.Call (.Name a p1) [] [] p2) (fun σ0 H0 Q => σ0[0]? = some (some (.ref f)) ∧ H0 c' = some (CodeO c' q) ∧ tl (WE W σ0) H0 Q)) →
    H c' = some (CodeO c' q) → TT tl H Q →
    ∃ t, PSs (cxOf C8.CX0 X.prog X.w X.K X.mg X.base Ng x sg g cdg X.A X.stack s H C8.E0).nox bg t ∧ t { nx := fun _ H' => Q .non H', rt := Q } (L2.start Ng [.ref f]) H
section
variable {X : Cx}
/-- x(lambda: body), by slots -/
theorem pe_lamS {T : List (Addr × Str)} {TT : (XK → Hp → VK → Prop) → Hp → VK → Prop} {x a : Str} {g c P : Addr} {k : Nat} {pg : Arguments} {bg : List Stmt} {sg : Scope} {dV kV doc pm cdv ct oc : Value} {an od : Option Addr} {osl : Array (Option Value)} {Ng : List Str}
    {params : Arguments} {body : Expr} {scope : Scope} {t : XK → TE} {p lpos pos : Pos} (hg : Gl X x) (hm : X.mg x = some (.ref g)) (hk : PySem.W.keepIn X.K (.ref g) = true)
    (lk : X.K.lookup g = some ⟨oc, od, .func (PySem.W.fnOf x x pg bg sg dV kV doc pm an cdv ct), osl⟩) (hcg : PySem.W.codeIn X.K cdv x = true) (hb : L2.Binds X.K (PySem.W.fnOf x x pg bg sg dV kV doc pm an cdv ct) [a] []) (Sg : FnScope Ng [a] sg) (hNg : Ng[0]? = some a) (hva : Vis sg a)
    (hG : AsksOf X Ng x sg g cdv bg a (X.env.qual ++ "<lambda>") TT)
    (TB : TabB X.base X.mg c P) (hcode : X.env.code = .ref c) (hmT : (P, X.env.qual ++ "<lambda>") ∈ T) (hu : ∀ p ∈ T, p.1 = P → p.2 = X.env.qual ++ "<lambda>") (hr : Room (k + 2) X.A) (L : LamS X.env.scope scope) (hdef : defaultsOf params X.env = ([], []))
    (hbind : ∀ (q : Str) (cl : List (Str × Addr)) (pm cv ctv : Value), bindArgs (PySem.W.kla_fn "<lambda>" q params body scope cl pm cv ctv) ⟨[], []⟩ = pure [])
    (hbody : ∀ (A : Around) (outer : List Env) (s : Shared) (H : Hp) (E : XK) (f c' : Addr), Room k (A.deeper (lamEnv X scope s.heap.objs.size f c')) → PE (lamCx X A outer s H E scope f c') body (t E))
    (hdb : (x == ("__debug__" : Str)) = false := by decide) (hd : (a == ("__debug__" : Str)) = false := by decide) (hcd : (a == ("__classdict__" : Str)) = false := by decide) :
    PE X (.Call (.Name x p) [.Lambda params body scope lpos] [] pos) (tLam T TT t) := by
  refine ⟨fun pins s σ H Q Iv hyp => ?_⟩
  obtain ⟨tabs, rest⟩ := hyp
  refine wpAny_Call_Name_kw (ld_glob Iv hg hm (PySem.W.callWith_K (h₀ := X.base) Iv.ok.mod.kin hk ?_ (by rfl) (by rfl)) hdb)
  show wpAny _ _ (spliced ((false, eval (.Lambda params body scope lpos) X.env) :: backTo pos (starEach [] X.env))) _ _ s
  refine Calls.spliced_cons (lam_make2 Iv TB hcode hmT hu tabs hdef (L.has Iv.ok) fun f c' pm2 ctv2 H1 s1 I1 ext1 tabs1 hf hfn hfr hco => ?_)
  refine Calls.spliced_nil ⟨I1.kIn, ?_⟩
  have runs : codeAny (model X.prog X.w) X.A (.call (.ref g) ⟨[.ref f], []⟩) (CR C8.CX0 X.stack X.prog X.w H1 s1 Q C8.E0) s1 := by
    refine run_ofS (N := Ng) (ps := [a]) (us := [.ref f]) (vs := [.ref f]) lk hcg Sg hr I1.env0 (hb s1 [.ref f] I1.kIn rfl) (.cons rfl .nil) rfl fun hr2 => ?_
    obtain ⟨t2, ht2, hq2⟩ := hG f c' s1 H1 Q (fun E H' Q' => t E σ H' Q')
      (fun W pn xe p1 p2 tk => pe_askS (i := 0) I1 L hf hfn hfr (hbind _ _ _ _ _) tk hr2 (fun A outer s H E hr3 => hbody A outer s H E f c' hr3) hNg hva hd hcd) hco (rest H1 ext1 tabs1)
    exact ⟨t2, ht2.nox, hq2⟩
  refine wpAny_call (codeAny_mono runs fun r s2 hq => ?_)
  cases r with
  | error e => exact (show False from hq).elim
  | ok fl =>
    cases fl with
    | ret u => exact I1.after hq
    | next => exact False.elim hq
    | brk => exact False.elim hq
    | cont => exact False.elim hq
end
end LamX
namespace L2
open PySem PySem.Spec PyProof.Rows
/-- n of a caught error of an own class, whichever class -/
def tErrF (K : PySem.W.Frag) (a : Addr) (cls : Value) (d : Option Addr) (n : Str) (te : TE) : TE := fun σ H Q => te σ H fun x H1 => x = .ref a ∧ ∃ (C dd : Addr) (fs : List (Str × V)) (v : V), cls = .ref C ∧ XfC K C ∧ PySem.W.findIn K (.ref C) n = some none ∧ d = some dd ∧ H1 dd = some (.xd fs) ∧ fs.lookup n = some v ∧ Q v H1
theorem pe_errF {X : Cx} {a : Addr} {oe : Obj} {cls : Value} {d : Option Addr} {pn : List (Addr × Obj)} {e : Expr} {te : TE} {pos : Pos} {n : Str} (hz : Zc cls d oe) (hf : ∃ vs, oe.data = .fields vs)
    (he : PE (X.suite a ((a, oe) :: pn)) e te) (hb : attributeBase e n X.env (eval e X.env) = eval e X.env := by rfl) : PE (X.suite a ((a, oe) :: pn)) (.Attribute e n pos) (tErrF X.K a cls d n te) := by
  refine ⟨fun pins s σ H Q Iv hyp => attr_of hb (thn (he.run pins s σ H _ Iv hyp) fun u s1 got => ?_)⟩
  obtain ⟨x, H1, I1, rx, ex, C, dd, fs, v, ec, T, hno, ed, ea, l, q⟩ := got
  subst ex ec ed
  obtain rfl : u = Value.ref a := rx
  obtain ⟨mem, _⟩ := I1.pin (a, oe) (List.mem_append_left _ List.mem_cons_self)
  obtain ⟨vs, hdat⟩ := hf
  have hxd : ObjOk X.prog X.w H1 s1.heap dd (.xd fs) := I1.hok dd _ ea
  obtain ⟨mA, hns, rel⟩ := hxd
  obtain ⟨od, hod, hl⟩ := lookIn_ns hns
  obtain ⟨u2, hu2, ru2⟩ := RelO.some_of (v := v) (o := mA n) (by rw [← l]; exact rel n)
  have inst : PySem.W.InstAt s1.heap a oe C (some od) := by
    refine ⟨mem, hz.1, ?_, ?_⟩
    · unfold PySem.W.notCls
      rw [hdat]
    · rw [hz.2]
      exact hod
  exact HandSPX.exc_get I1.kIn inst T.ga T.gg T.exC (PySem.W.findObj_own T.hdC hno rfl (by rw [hl, hu2])) (handed_of ru2) ⟨v, H1, I1.tok _, ru2, q⟩
end L2
/-! Refusals that stand on LookupError: made with an own __init__ that is walked as a def. -/
namespace L2
open PySem PySem.Spec PyProof.Rows PySem.Builtin PySem.Builtin.ObjectAttr
abbrev leMro : List Value := [.type "LookupError", .type "Exception", .type "BaseException", .type "object"]
/-- what the written part says of such a class -/
structure OexM (K : PySem.W.Frag) (C : Addr) : Prop where
  cls : ∃ nm q N bs bm sn sub ab col dd k0 k1 k2 k3 k5, K.lookup C = some (excClassObj nm q C N bs bm true sn sub ab col dd k0 k1 k2 k3 k5 "LookupError.__new__") ∧ ∀ Y : String, bm.contains (.type Y) = leMro.contains (.type Y)
  ov : PySem.W.excOver K C leMro = true
  dc : PySem.W.hasDictIn K C = true
  sa : PySem.W.findIn K (.ref C) "__setattr__" = some (some (.builtin "object.__setattr__"))
  exC : PySem.W.subIn K (.ref C) (.type "BaseException") = some true
  tyC : PySem.W.typeIn K (.ref C) = some (.type "type")
  kC : PySem.W.keepIn K (.ref C) = true
section
variable {prog : Program} {w : World} {A : Around} {R : Result → Shared → Prop} {hp : Heap} {g : Array GenState} {d : Drawn} {t : Nat} {os : OsState}
/-- the first field of such an exception lays its dict -/
theorem lay_first {K : PySem.W.Frag} {name : Str} {tk : Tok} {v : Value} {x C : Addr} {fv : Array Value} (X : K.In hp) (hx : hp.get? x = some { cls := .ref C, data := .fields fv }) (T : OexM K C) (ha : PySem.W.findIn K (.ref C) name = some none)
    (hq : ∀ h' tk' dx, (∀ b o, b ≠ x → hp.get? b = some o → h'.get? b = some o) → hp.objs.size ≤ dx → dx ≠ x → h'.get? x = some { cls := .ref C, dict := some dx, data := .fields fv } →
      h'.Ns1 dx (fun y => if y = name then some v else none) → R (.ok (.ret .none)) ⟨h', g, d, tk', os⟩) :
    codeAny (model prog w) A (.call (.builtin "object.__setattr__") ⟨[.ref x, .str name tk, v], []⟩) R ⟨hp, g, d, t, os⟩ := by
  have I : PySem.W.InstAt hp x { cls := .ref C, data := .fields fv } C none := ⟨hx, rfl, rfl, trivial⟩
  have free : PySem.W.takerIn K C name = some none := by
    unfold PySem.W.takerIn
    rw [ha]
    rfl
  obtain ⟨cd, hc, hd'⟩ := PySem.W.any_some T.dc
  have apart : x ≠ hp.objs.size := Nat.ne_of_lt (Heap.lt_size hx)
  have cl : PySem.W.Looks (model prog w) hp (classData C) cd := PySem.W.looks_clsIn X hc
  refine PySem.W.osa_openX PySem.F.store_LookupError X I T.ov free fun b => ?_
  obtain ⟨nm, bs, mro, ns, qn, hd, sn, sb, ab, col, del⟩ := cd
  dsimp only at hd'
  subst hd'
  dsimp only
  unfold storeInOwnDict ownDictForStores
  repeat (first | with_reducible refine PySem.HandSPX.store_in_new ?_ ?_ | with_reducible refine wpAny_loadPart_at hx ?_ | with_reducible refine cl.at ?_ | wp_step)
  · exact ⟨_, #[], _, (Heap.get?_update_ne _ _ _ _ apart.symm).trans (Heap.get?_push_at rfl rfl), rfl, fun e he => absurd he (by simp), fun _ => rfl⟩
  · intro h' tk' hn' hs
    refine hq h' tk' hp.objs.size (fun b o hb ho => ?_) (Nat.le_refl _) apart.symm ?_ hn'
    · exact (hs.2 b (Nat.ne_of_lt (Heap.lt_size ho))).trans ((Heap.get?_update_ne _ _ _ _ hb).trans (Heap.get?_push_of_some _ ho))
    · exact (hs.2 x apart).trans (Heap.get?_update_self _ (Heap.get?_push_of_some _ hx) rfl)
end
section
variable {X : Cx} {pins : List (Addr × Obj)} {σ : St} {H : Hp} {s : Shared} {a C dx : Addr} {f : Str} {y : V} {u : Value} {E : Value → Shared → Prop} {A : Around}
/-- self.f = y, the first one -/
theorem first_store {Q : Unit → Shared → Prop} (T : OexM X.K C) (I : Inv X pins σ H s) (e : H a = some (exo a C none)) (hno : PySem.W.findIn X.K (.ref C) f = some none) (ry : RelV y u)
    (h : ∀ dx s', H dx = none → dx ≠ a → Inv X pins σ (upd (upd H dx (exd dx [(f, y)])) a (exo a C (some dx))) s' → Q () s') : wpAny (model X.prog X.w) A (setAttr (.ref a) f u) Q E s := by
  obtain ⟨t1, ho⟩ := exo_at I.hok e
  obtain ⟨hp, g, d, t, os⟩ := s
  refine PySem.W.set_plain I.kIn (ox := { cls := .ref C, dict := none, data := .fields #[.ref t1, .none, .none, .none, .bool false, .none] }) (od := none) ⟨ho, rfl, rfl, trivial⟩ T.sa ?_
  refine lay_first I.kIn ho T hno fun h' tk' dx k dn dne hx hn => ?_
  have hnd : H dx = none := I.hok.fresh dn
  have old : ∀ {b : Addr} {o : Obj}, hp.get? b = some o → b ≠ dx := fun {b o} q => Nat.ne_of_lt (Nat.lt_of_lt_of_le (Heap.lt_size q) dn)
  have off : ∀ {b : Addr}, H b = none → b ≠ a := fun {b} n z => by
    rw [z, e] at n
    cases n
  have same : ∀ {b : Addr} {o : HO}, H b = some o → o ≠ exo a C none → (upd (upd H dx (exd dx [(f, y)])) a (exo a C (some dx))) b = H b := fun {b o} q ne => by
    rw [upd_ne (fun z => by
      rw [z, e] at q
      exact ne (Option.some.inj q).symm), upd_ne (ne_of_none q hnd)]
  have U : Un X.fs [] H (upd (upd H dx (exd dx [(f, y)])) a (exo a C (some dx))) hp h' := {
    keep := fun b o q n _ _ => k b o (off n) q
    slot := fun b o q n _ _ => ⟨o.slots, k b o (off n) q⟩
    free := fun b o q n _ => by
      rw [upd_ne (off n), upd_ne (old q)]
      exact n
    there := fun b o q _ => by
      by_cases hb : b = a
      · exact ⟨_, by rw [hb]; exact hx⟩
      · exact ⟨o, k b o hb q⟩
    tups := fun b xs q => (same q (fun z => exo_tup z.symm)).trans q
    frzs := fun b o v q => (same q (fun z => exo_frz z.symm)).trans q
    tbls := fun b ps q => ⟨#[], by rw [same q (fun z => exo_tbl z.symm), q]; simp⟩ }
  refine h dx _ hnd dne (I.un (t' := tk') U fun b o q => ?_)
  by_cases hb : b = a
  · subst hb
    rw [upd_same] at q
    cases q
    exact exo_ok hx
  · rw [upd_ne hb] at q
    by_cases hd : b = dx
    · subst hd
      rw [upd_same] at q
      cases q
      exact exd_ok hn (relO_put (fs := []) ry fun g => True.intro)
    · rw [upd_ne hd] at q
      refine (I.hok b o q).stay (fun c v hc z => k c v ?_ z) (fun c hc => (same hc (fun z => exo_own z.symm)).trans hc) (fun c xs hc => (same hc (fun z => exo_tup z.symm)).trans hc)
      rcases hc with hc | hc
      · rw [hc]
        exact hb
      · exact at_ne e hc exo_own
/-- LookupError.__init__(self, ..): nothing of it is told -/
theorem base_init {us : List Value} {Q : Value → Shared → Prop} (T : OexM X.K C) (I : Inv X pins σ H s) (e : H a = some (exo a C none)) (hl : us.length ≤ sizeLine) (h : ∀ s', Inv X pins σ H s' → Q .none s') :
    wpAny (model X.prog X.w) A (call (.builtin "LookupError.__init__") (.ref a :: us)) Q E s := by
  obtain ⟨nm, q, N, bs, bm, sn, sub, ab, col, dd, k0, k1, k2, k3, k5, hC, hbm⟩ := T.cls
  obtain ⟨t1, ho⟩ := exo_at I.hok e
  obtain ⟨hp, g, d, t, os⟩ := s
  refine wpAny_call (PySem.HandSPX.init_base F.excBase_LookupError hbm (I.kIn _ _ hC) ho hl fun h' t2 k hx => ?_)
  have J := I.write (t' := t) (x := a) (e := a) (o := exo a C none) (by rw [e]; exact True.intro) (.inl rfl) k ⟨_, hx⟩ (exo_ok hx)
  have back : upd H a (exo a C none) = H := funext fun b => by
    by_cases hb : b = a
    · rw [hb, upd_same, e]
    · rw [upd_ne hb]
  rw [back] at J
  exact h _ J
end
theorem typ_LE : typeOf (.type "LookupError") = pure (.type "type") := by kernel_rfl
/-- LookupError.__init__(self, ..) -/
def tLeI (K : PySem.W.Frag) (ta : TA) : TE := fun σ H Q => ta σ H fun vs H1 => ∃ (a C : Addr) (ws : List V), vs = .ref a :: ws ∧ ws.length ≤ 1000 ∧ OexM K C ∧ H1 a = some (exo a C none) ∧ Q .non H1
/-- self.f = e, the first one -/
def tFst (K : PySem.W.Frag) (f : Str) (to te : TE) : TS := fun D σ H => te σ H fun y H1 => to σ H1 fun x H2 => ∃ a C : Addr, x = .ref a ∧ OexM K C ∧ PySem.W.findIn K (.ref C) f = some none ∧
  H2 a = some (exo a C none) ∧ ∀ dx, H2 dx = none → dx ≠ a → D.nx σ (upd (upd H2 dx (exd dx [(f, y)])) a (exo a C (some dx)))
section
variable {X : Cx} {o e : Expr} {es : List Expr} {to te : TE} {ta : TA} {f : Str} {p p' p1 p2 pos : Pos}
theorem pe_leinit {pl : Sem Bool} (hg : Gl X "LookupError") (hm : X.mg "LookupError" = none) (vV : PySem.W.findCls X.K (.type "LookupError") (.type "type") "__init__" = some (.val (.builtin "LookupError.__init__"))) (ha : PA X (e :: es) ta)
    (hc : eval (.Call (.Attribute (.Name "LookupError" p1) "__init__" p2) (e :: es) [] pos) X.env = (do
      let ov ← eval (.Name "LookupError" p1) X.env
      standAt p2.atName
      let (f, first) ← holding [ov] (getMethod ov "__init__" pl)
      callWith pos f first (backTo pos (starEach (e :: es) X.env)) (backToKw pos (keywordEach [] X.env))) := by rfl)
    (he : starEach (e :: es) X.env = (false, eval e X.env) :: starEach es X.env := by rfl) (hpl : (backTo pos (starEach es X.env)).any (·.1) = false := by rfl) :
    PE X (.Call (.Attribute (.Name "LookupError" p1) "__init__" p2) (e :: es) [] pos) (tLeI X.K ta) := by
  refine ⟨fun pins s σ H Q I h => ?_⟩
  refine PySem.W.methodCall_KW (ld_blt I hg hm PyProof.Rows.Boot.«LookupError» ?_ (by decide) (by decide)) hc
  obtain ⟨m, fr⟩ := I.fr
  refine PySem.W.method_type fr I.ok.mod.kin typ_LE (by decide +kernel) vV (by decide +kernel) ?_
  show wpAny _ _ (callWith pos (Value.builtin "LookupError.__init__") [] (backTo pos (starEach (e :: es) X.env)) []) _ _ _
  refine PyProof.Rows.callWith_method1 (thn (ha.run pos pins _ σ H _ (I.tok _) h) fun us s1 ⟨vs, H1, I1, r1, a, C, ws, ev, hl, T, ea, q⟩ => ?_) he hpl
  subst ev
  cases r1 with
  | @cons _ u0 _ ur ra rw' =>
    obtain rfl : u0 = Value.ref a := ra
    refine base_init T I1 ea ?_ fun s' J => ⟨.non, H1, J, rfl, q⟩
    rw [← Paired.length rw', sizeLine_eq]
    omega
theorem ps_first (ho : PE X o to) (he : PE X e te) (hs : swapsWith e (some (.Attribute o f p')) pos.line X.env = pure false := by rfl) : PS X (.Assign [.Attribute o f p'] e pos) (tFst X.K f to te) := by
  refine ⟨fun pins s σ H D I h => ?_⟩
  refine plainObj_wpAny_Assign_Attribute (thn (he.run pins s σ H _ I h) fun v s1 ⟨y, H1, I1, r1, q1⟩ => thn (ho.run pins s1 σ H1 _ I1 q1) fun u s2 ⟨x, H2, I2, r2, a, C, ex, T, hno, ea, q⟩ => ?_) hs
  subst ex
  obtain rfl : u = Value.ref a := r2
  exact first_store T I2 ea hno r1 fun dx s' n ne J => ⟨σ, _, J, q dx n ne⟩
/-- C(e, ..), C's own __init__ keeping sp -/
theorem pmk_oexM {CX : CXT} {x : Str} {C fI : Addr} {k : Nat} {fd : FuncData} {ps : List Str} {sp : Sp} {ds : List Value} {dvs : List V} (T : OexM X.K C) (iC : PySem.W.findIn X.K (.ref C) "__init__" = some (some (.ref fI))) (tI : PySem.W.typeIn X.K (.ref fI) = some (.type "function"))
    (F1 : FnOk X.prog X.w X.K X.mg X.base CX k fI fd ps sp) (hr : Room (k + 1) X.A) (hb : Binds X.K fd ps ds) (hd : Vals dvs ds) (hx : Passes CX X (fun _ _ _ => False)) (hg : Gl X x) (hm : X.mg x = some (.ref C)) (ha : PA X (e :: es) ta)
    (hdb : (x == ("__debug__" : Str)) = false := by decide) (he : starEach (e :: es) X.env = (false, eval e X.env) :: starEach es X.env := by rfl) (hpl : (backTo pos (starEach es X.env)).any (·.1) = false := by rfl) :
    PMk X (.Call (.Name x p) (e :: es) [] pos) (tMkO C sp dvs ta) := by
  intro pins s σ H Q I h
  obtain ⟨nm, q, N, bs, bm, sn, sub, ab, col, dd, k0, k1, k2, k3, k5, hC, hbm⟩ := T.cls
  refine wpAny_Call_Name_kw (ld_glob I hg hm ?_ hdb)
  refine PySem.W.callWith_K (h₀ := X.base) I.ok.mod.kin T.kC (thn (ha.run pos pins s σ H _ I h) fun us s1 ⟨vs, H1, I1, r1, hz, q1⟩ => ⟨I1.kIn, ?_⟩) he hpl
  show wpAny _ _ (call (.ref C) us) _ _ _
  obtain ⟨hp, g, dr, tk, os⟩ := s1
  generalize hb' : hp.objs.size + 1 = b
  have up : hp.objs.size ≤ b := by omega
  have hq := q1 b (I1.hok.fresh up)
  have grow : ∀ c o, hp.get? c = some o → ((hp.push (PySem.W.kdv_tup us)).push (PySem.HandSPX.excO C hp.objs.size)).get? c = some o := fun c o z => Heap.get?_push_of_some _ (Heap.get?_push_of_some _ z)
  have there : ((hp.push (PySem.W.kdv_tup us)).push (PySem.HandSPX.excO C hp.objs.size)).get? b = some (PySem.HandSPX.excO C hp.objs.size) := by
    rw [← hb']
    heap_get
  have I2 : Inv X pins σ (upd H1 b (exo b C none)) ⟨(hp.push (PySem.W.kdv_tup us)).push (PySem.HandSPX.excO C hp.objs.size), g, dr, tk, os⟩ :=
    I1.laid (t' := tk) (a := b) (o := exo b C none) (h' := (hp.push (PySem.W.kdv_tup us)).push (PySem.HandSPX.excO C hp.objs.size)) grow up (exo_ok there)
  have r2 : Vals (V.ref b :: (vs ++ dvs)) (Value.ref b :: (us ++ ds)) := .cons rfl (r1.append hd)
  have len : (Value.ref b :: us ++ ds).length = ps.length := by
    have z := r2.length
    rw [F1.len _ _ _ _ hq] at z
    exact z.symm
  have few : us.length ≤ sizeLine := by
    rw [← Paired.length r1, sizeLine_eq]
    omega
  have run := F1.run _ X.stack _ _ ⟨Value.ref b :: us, []⟩ (Value.ref b :: (us ++ ds)) _ _ (fun _ _ _ => False) (hr.make C us []) (I2.env0.make C us []) (hb _ (Value.ref b :: us) I2.kIn len) r2 hq
  rw [← hb'] at run
  refine wpAny_call (PySem.HandSPX.call_own F.excBase_LookupError hbm (I1.kIn _ _ hC) (PySem.W.looks_findIn I1.kIn iC) (fun self => PySem.W.bind_fn I1.kIn self tI) few (codeAny_mono run fun r s' hq' => ?_))
  cases r with
  | error er => exact hx pins σ _ _ er s' I2 (by rw [← hb']; exact hq')
  | ok fl =>
    cases fl with
    | ret u =>
      obtain ⟨v, H2, os2, bare2, un2, hok2, rv, ev, d, fs, ea, ed, hd1, q2⟩ := hq'
      subst ev
      obtain ⟨h2, g2, d2, t2, os'⟩ := s'
      rw [hb'] at un2 ea q2 ⊢
      exact ⟨rv, mk_end (raises_own T.exC T.tyC) I1 up grow un2 hok2 os2 bare2 ea ed hd1 q2⟩
    | next => exact False.elim hq'
    | brk => exact False.elim hq'
    | cont => exact False.elim hq'
end
end L2
/-! t[1::-1], a tuple of two items or more: the second, then the first. -/
namespace RevT
open PySem PySem.Spec PyProof.Rows HT L2
section
variable {prog : Program} {w : World} {A : Around} {E : Value → Shared → Prop} {s : Shared}
theorem adjust_down {n : Nat} (hn : 2 ≤ n) : Builtin.Slice.sliceAdjust (some 1) none (-1) (n : Int) = (1, -1) := by
  unfold Builtin.Slice.sliceAdjust
  have h1 : ((-1 : Int) < 0) := by omega
  have h2 : ¬ ((1 : Int) < 0) := by omega
  simp only [h1, h2, if_false, if_true]
  first
    | rfl
    | (congr 1; omega)
theorem places_down : Builtin.Slice.slicePlaces 1 (-1) (-1) = 2 := by
  unfold Builtin.Slice.slicePlaces
  decide
theorem applied_down {sl : Addr} {n : Nat} {u v : Tok} {Q : Int × Int × Nat → Shared → Prop} (hs : s.heap.IsSliceOf sl (.int 1 u) .none (.int (-1) v)) (hn : 2 ≤ n) (h : Q (1, -1, 2) s) :
    wpAny (model prog w) A (Builtin.Slice.sliceApplied (.ref sl) (pure (n : Int))) Q E s := by
  obtain ⟨os, hos, hcs, hds⟩ := id hs
  unfold Builtin.Slice.sliceApplied Builtin.Slice.sliceFields
  refine wpAny_bind (wpAny_bind (wpAny_field hos hds (x := .int 1 u) rfl (wpAny_bind (wpAny_field hos hds (x := .none) rfl (wpAny_bind (wpAny_field hos hds (x := .int (-1) v) rfl (wpAny_pure ?_)))))))
  refine wpAny_bind (slicePart_int ?_)
  show wpAny _ _ (if ((-1 : Int) == 0) = true then _ else _) _ _ s
  rw [if_neg (by decide)]
  refine wpAny_bind (slicePart_int (wpAny_bind (slicePart_none (wpAny_bind (wpAny_pure ?_)))))
  show wpAny _ _ (match Builtin.Slice.sliceAdjust (some 1) none (-1) (n : Int) with | (lo, hi) => pure (lo, (-1 : Int), Builtin.Slice.slicePlaces lo hi (-1))) _ _ s
  rw [adjust_down hn]
  show wpAny _ _ (pure ((1 : Int), (-1 : Int), Builtin.Slice.slicePlaces 1 (-1) (-1))) _ _ s
  rw [places_down]
  exact wpAny_pure h
theorem pick_down (xs : Array Value) {a b : Value} (ha : xs[0]? = some a) (hb : xs[1]? = some b) : ((List.range 2).filterMap fun (k : Nat) => xs[((1 : Int) + (k : Int) * (-1)).toNat]?).toArray = #[b, a] := by
  have e : List.range 2 = [0, 1] := by decide
  rw [e]
  show ([0, 1].filterMap fun (k : Nat) => xs[((1 : Int) + (k : Int) * (-1)).toNat]?).toArray = #[b, a]
  rw [List.filterMap_cons, List.filterMap_cons, List.filterMap_nil]
  rw [show ((1 : Int) + ((0 : Nat) : Int) * (-1)).toNat = 1 from by decide, show ((1 : Int) + ((1 : Nat) : Int) * (-1)).toNat = 0 from by decide, hb, ha]
theorem getItem_down {t sl : Addr} {items : Array Value} {a b : Value} {u v : Tok} {Q : Value → Shared → Prop} (ht : IsTup s.heap t items) (hs : s.heap.IsSliceOf sl (.int 1 u) .none (.int (-1) v)) (ha : items[0]? = some a) (hb : items[1]? = some b)
    (h : Q (.ref s.heap.objs.size) { s with heap := s.heap.push { cls := .type "tuple", data := .seq #[b, a] } }) : wpAny (model prog w) A (getItem (.ref t) (.ref sl)) Q E s := by
  obtain ⟨os, hos, hcs, hds⟩ := id hs
  have hTs : s.TypeIs (.ref sl) "slice" := ⟨os, hos, hcs⟩
  have hn : 2 ≤ items.size := by
    have := (Array.getElem?_eq_some_iff.mp hb).1
    omega
  unfold getItem
  try with_reducible refine wpAny_holding ?_
  first | refine wpAny_bind (wpAny_pure ?_) | skip
  refine wpAny_bind (wpAny_sequenceKey ht.typeIs (by decide) ?_)
  refine wpAny_bind (wpAny_callSpecial?_slot (name := Str.ofString "__getitem__") ht.typeIs PyProof.Rows.slot_tuple_getitem
    (wpAny_call_entry PyProof.Rows.slot_tuple_getitem ht.typeIs entry_tuple_getitem ?_ (args_tuple_getitem _ _)))
  show wpAny _ _ (Builtin.Tuple.tupleItemsOf (.ref t) >>= _) _ _ s
  refine wpAny_bind (tupleItemsOf_ ht ?_)
  refine wpAny_bind (wpAny_typeOf hTs ?_)
  rw [if_pos (by decide)]
  refine wpAny_bind (applied_down hs hn ?_)
  show wpAny _ _ (if ((1 : Int) == 0 && (-1 : Int) == 1 && (2 : Nat) == items.size) = true then _ else _) _ _ s
  rw [if_neg (by simp), pick_down items ha hb]
  have small : sizeOk (.seq #[b, a]) := by
    show 2 ≤ sizeLine
    decide
  first
    | exact wpAny_bind (m := Builtin.Tuple.tupleExact _) (wpAny_newObj_type (wpAny_pure ⟨_, rfl, wpAny_pure h⟩) small)
    | exact wpAny_bind (m := Builtin.Tuple.tupleExact _) (wpAny_newObj_type (wpAny_bind (wpAny_pure (wpAny_pure ⟨_, rfl, wpAny_pure h⟩))) small)
    | exact wpAny_bind (wpAny_bind (m := Builtin.Tuple.tupleExact _) (wpAny_newObj_type (wpAny_pure (wpAny_pure ⟨_, rfl, wpAny_pure h⟩)) small))
    | exact wpAny_bind (wpAny_bind (m := Builtin.Tuple.tupleExact _) (wpAny_newObj_type (wpAny_pure ⟨_, rfl, wpAny_pure h⟩) small))
end
/-- t[1::-1] -/
def tDown (K : PySem.W.Frag) (te : TE) : TE := fun σ H Q => te σ H fun x H1 => ∃ (a : Addr) (y z : V) (r : List V), x = .ref a ∧ SqT K H1 a (y :: z :: r) ∧ ∀ p, H1 p = none → Q (.ref p) (upd H1 p (.tup [z, y]))
theorem pe_down {X : Cx} {e : Expr} {te : TE} {k k2 : Nat} {p0 p1 p2 p3 pos : Pos} (he : PE X e te) : PE X (.Subscript e (.Slice (some (.Constant (.int 1) k2 p0)) none (some (.UnaryOp .USub (.Constant (.int 1) k p1) p2)) p3) pos) (tDown X.K te) := by
  refine ⟨fun pins s σ H Q I h => ?_⟩
  refine Subscript_ (thn (he.run pins s σ H _ I h) fun v s1 ⟨x, H1, I1, r1, q1⟩ => ?_)
  obtain ⟨a, y, z, r, ex, hx, q⟩ := q1
  subst ex
  cases r1
  have lower : PO X (some (.Constant (.int 1) k2 p0)) (tPart (tC (.int 1))) := po_some pe_int
  have down : PO X (some (.UnaryOp .USub (.Constant (.int 1) k p1) p2)) (tPart (tUn (rU fun i => .int (-i)) (tC (.int 1)))) := po_some (pe_un un_neg pe_int)
  refine wpAny_Slice (thn (lower.run pins s1 σ H1 (fun o H2 => o = some 1 ∧ H2 = H1) I1 ⟨1, rfl, rfl, rfl⟩) fun vl s2 ⟨l, H2, I2, pl, el, e2⟩ => ?_)
  subst el e2
  refine thn (po_none.run pins s2 σ H2 (fun o H3 => o = none ∧ H3 = H2) I2 ⟨rfl, rfl⟩) fun vu s3 ⟨u, H3, I3, pu, eu, e3⟩ => ?_
  subst eu e3
  refine thn (down.run pins s3 σ H3 (fun o H4 => o = some (-1) ∧ H4 = H3) I3 ⟨1, rfl, -1, rfl, rfl, rfl⟩) fun vs s4 ⟨o, H4, I4, ps, eo, e4⟩ => ?_
  subst eo e4
  have I5 : Inv X pins σ H4 { s4 with heap := s4.heap.push { cls := .type "slice", data := .fields #[vl, vu, vs] } } := I4.kept (t' := s4.toks) fun b ob q => Heap.get?_push_of_some _ q
  obtain ⟨its, rv, ht, hz⟩ := I5.tuple hx
  cases rv with
  | @cons _ y' _ rest ry rr =>
    cases rr with
    | @cons _ z' _ rest rz rr =>
      cases pl
      cases pu
      cases ps
      refine tail_any (ops := [.ref a, .ref s4.heap.objs.size]) (show IsTup _ a _ from ht).typeIs (PyProof.Rows.slot_tuple_getitem.lookup) ?_ (by with_unfolding_all rfl)
      refine getItem_down ht (Heap.IsSliceOf.new _ _ _ _) (a := y') (b := z') (by simp) (by simp) ?_
      refine ⟨.ref _, _, I5.laid (t' := s4.toks) (o := .tup [z, y]) (fun b ob q => Heap.get?_push_of_some _ q) (Nat.le_refl _) ?_, rfl, q _ (I5.hok.fresh (Nat.le_refl _))⟩
      exact ⟨by show 2 ≤ sizeLine; decide, _, .cons rz (.cons ry .nil), ⟨_, Heap.get?_push_size _ rfl, rfl, _, rfl⟩⟩
end RevT
/-! sorted of a list of ints, however long -/
namespace L2
open PySem PySem.Spec PyProof.Rows
namespace SrA
variable {X : Cx}
def rSortedA (K : PySem.W.Frag) : List V → Hp → VK → Prop := fun vs H Q => ∃ (a : Addr) (ns : List Int), vs = [V.ref a] ∧ SqL K H a (ns.map V.int) ∧ ns.length ≤ sizeLine ∧
  ∀ (ns' : List Int) (p : Addr), ns'.Perm ns → ns'.Pairwise (· ≤ ·) → H p = none → Q (.ref p) (upd H p (.lst (ns'.map V.int)))
theorem cr_sortedA : CallR X (.builtin "sorted") (rSortedA X.K) := by
  intro pins s σ H vs us Q I r h
  obtain ⟨a, ns, rfl, hs, h64, q⟩ := h
  obtain ⟨its, rv, hl, _⟩ := I.list hs
  rw [Vals.ref1 r]
  have hi := rv.ints
  refine PyProof.Rows.sorted_intsAny hl.isList hi (by rw [hi.length]; exact h64) fun out ns' h1 h2 h3 => ?_
  obtain ⟨ep, he'⟩ := PyProof.Rows.sortedAll_at s.heap its out
  have hlen : (ns'.map V.int).length ≤ sizeLine := by rw [List.length_map, h2.length_eq]; exact h64
  exact ⟨.ref _, upd H (s.heap.objs.size + 1) (.lst (ns'.map V.int)), I.laid (t' := s.toks) (fun _ _ => PyProof.Rows.sortedAll_old) (Nat.le_succ _) ⟨hlen, out.toList, ep, vals_of_ints h1, he'⟩, rfl, q ns' _ h2 h3 (I.hok.fresh (Nat.le_succ _))⟩
end SrA
end L2
namespace LamX
open PySem PySem.Spec PyProof.Rows L2
/-- the tables of the defs of these names are empty -/
def OwnTabs (K : PySem.W.Frag) (mg : Str → Option Value) (names : List Str) (h : Heap) : Prop := ∀ n ∈ names, ∀ fb, mg n = some (.ref fb) → OwnTab K fb h
/-- the end where several defs hold lambdas -/
theorem walk_ofOwns {l : PySem.W.OpenLaw} {n k : Nat} {q : Program} {loose : List Str} {XP : (Str → Option Value) → Heap → Prop} {YP : World → Heap → Prop} {d : DefRec} {K : Params → PySem.W.Frag} {CX : World → CXT} {x : Str} (names : List Str)
    (hn : l.most = some n) (hn2 : n ≤ sizeLine) (hdf : d.params.defaults = []) (hr : Room k callerA) (hrec : (names.all fun z => (recsOf q).any fun e => e.name == z) = true) (hY : ∀ (w : World) (h : Heap), YP w h → (K w.params).In h)
    (F : ∀ (w : World) (mg : Str → Option Value) (fa : Addr) (h : Heap), YP w h → (K w.params).In h → h.Ns mainGlobals mg → mg d.name = some (.ref fa) → OwnTabs (K w.params) mg names h → LawAtS l w (K w.params) (CX w) k n x mg fa h)
    (hCX : ∀ (w : World) (H : Hp) (s : Shared) (e : Value) (s' : Shared), CX w [] H s (fun _ _ _ => False) e s' → False) :
    PySem.W.WalkO q loose XP YP l.row.toRowW d [] (fun f vs => PySem.call f vs) := by
  refine Att.attach_callB hn hdf fun w s₀ s₁ mg mb fa o pm cd doc a vs ns G Y ho hd hcd hmg hobj hints hlen hbits hg => ?_
  have KX := hY w _ Y
  have own : OwnTabs (K w.params) mg names s₁.heap := fun z hz fb hfb c P o1 fd1 e dd vs1 sl k1 k2 k3 k4 k5 => by
    obtain ⟨dL, hm, hn1⟩ := List.any_eq_true.mp (List.all_eq_true.mp hrec z hz)
    have hn2 : dL.name = z := beq_iff_eq.mp hn1
    obtain ⟨a', o', fd', c', P', h1, h2, h3, h4, h5, h6⟩ := G.T.tab dL hm
    rw [hn2, hfb] at h1
    cases h1
    have g1 := KX _ _ k1
    rw [g1] at h2
    cases h2
    rw [k2] at h3
    cases h3
    rw [k3] at h4
    cases h4
    obtain ⟨⟨oc, vc, e1, _, e3, e4⟩, hP⟩ := h6
    have g2 := KX _ _ k4
    rw [g2] at e1
    cases e1
    cases e3
    rw [k5] at e4
    cases e4
    exact hP
  obtain ⟨fd, cs, sp, hT, nT, C, hb, hsp, hF⟩ := F w mg fa _ Y KX G.T.g hmg own
  exact law_callTs KX G.T.g G.T.b G.T.builtins G.T.nolimit hg hT nT C G.T.bmain hobj hints (Nat.le_trans hlen hn2) hr hF hb (fun H hH hS => hsp H a ns hlen hbits hH hS) fun H e s' => hCX w H s₁ e s'
end LamX

namespace St
open PySem PySem.Spec PyProof.Rows L2
def topS (i : Nat) : Stmt := PySem.Challenge.pw_stalkweb_k37_views_of_webs.main.body.getD i (.Pass ⟨0, 0, 0, 0⟩)
abbrev s__law_open : Stmt := topS 36
theorem sc__law_open : FnScope ["_law_script", "_law_seed", "_law_cell"] ["_law_script"] (defScope s__law_open) := ⟨rfl, rfl, rfl, by decide +kernel, rfl, by decide +kernel, by decide +kernel⟩
abbrev s__law_draw : Stmt := topS 37
theorem sc__law_draw : FnScope ["_law_box", "_law_many", "_law_cell", "_law_got", "_law_base"] ["_law_box", "_law_many"] (defScope s__law_draw) := ⟨rfl, rfl, rfl, by decide +kernel, rfl, by decide +kernel, by decide +kernel⟩
abbrev s__law_any : Stmt := topS 38
theorem sc__law_any : FnScope ["_law_box", "_law_some"] ["_law_box", "_law_some"] (defScope s__law_any) := ⟨rfl, rfl, rfl, by decide +kernel, rfl, by decide +kernel, by decide +kernel⟩
abbrev s__law_primes : Stmt := topS 42
theorem sc__law_primes : FnScope [] [] (defScope s__law_primes) := ⟨rfl, rfl, rfl, by decide +kernel, rfl, by decide +kernel, by decide +kernel⟩
abbrev s__law_field : Stmt := topS 43
theorem sc__law_field : FnScope ["_law_box"] ["_law_box"] (defScope s__law_field) := ⟨rfl, rfl, rfl, by decide +kernel, rfl, by decide +kernel, by decide +kernel⟩
abbrev s__law_gcd : Stmt := topS 44
theorem sc__law_gcd : FnScope ["_law_one", "_law_other"] ["_law_one", "_law_other"] (defScope s__law_gcd) := ⟨rfl, rfl, rfl, by decide +kernel, rfl, by decide +kernel, by decide +kernel⟩
abbrev s__law_num : Stmt := topS 45
theorem sc__law_num : FnScope ["_law_field_here", "_law_top", "_law_bottom", "_law_k", "_law_part"] ["_law_field_here", "_law_top", "_law_bottom"] (defScope s__law_num) := ⟨rfl, rfl, rfl, by decide +kernel, rfl, by decide +kernel, by decide +kernel⟩
abbrev s__law_number : Stmt := topS 49
theorem sc__law_number : FnScope ["_law_box", "_law_field_here", "_law_pick", "_law_top", "_law_bottom"] ["_law_box", "_law_field_here"] (defScope s__law_number) := ⟨rfl, rfl, rfl, by decide +kernel, rfl, by decide +kernel, by decide +kernel⟩
abbrev s__law_row : Stmt := topS 50
theorem sc__law_row : FnScope ["_law_box", "_law_field_here", "_law_width", "_law_k"] ["_law_box", "_law_field_here", "_law_width"] (defScope s__law_row) := ⟨rfl, rfl, rfl, by decide +kernel, rfl, by decide +kernel, by decide +kernel⟩
abbrev s__law_nothing : Stmt := topS 54
theorem sc__law_nothing : FnScope ["_law_width"] ["_law_width"] (defScope s__law_nothing) := ⟨rfl, rfl, rfl, by decide +kernel, rfl, by decide +kernel, by decide +kernel⟩
abbrev s__law_end_table : Stmt := topS 56
theorem sc__law_end_table : FnScope ["_law_box", "_law_field_here", "_law_room", "_law_wide", "_law_pick", "_law_factor", "_law_k", "_law_at"] ["_law_box", "_law_field_here", "_law_room", "_law_wide"] (defScope s__law_end_table) := ⟨rfl, rfl, rfl, by decide +kernel, rfl, by decide +kernel, by decide +kernel⟩
abbrev s__law_web : Stmt := topS 57
theorem sc__law_web : FnScope ["_law_box", "_law_field_here", "_law_most_places", "_law_most_ties", "_law_most_room", "_law_many", "_law_base", "_law_plain", "_law_k", "_law_sizes", "_law_ties", "_law_one", "_law_other", "_law_room", "_law_first"] ["_law_box", "_law_field_here", "_law_most_places", "_law_most_ties", "_law_most_room"] (defScope s__law_web) := ⟨rfl, rfl, rfl, by decide +kernel, rfl, by decide +kernel, by decide +kernel⟩
abbrev s__law_plus : Stmt := topS 46
theorem sc__law_plus : FnScope ["_law_field_here", "_law_one", "_law_other"] ["_law_field_here", "_law_one", "_law_other"] (defScope s__law_plus) := ⟨rfl, rfl, rfl, by decide +kernel, rfl, by decide +kernel, by decide +kernel⟩
abbrev s__law_added : Stmt := topS 53
theorem sc__law_added : FnScope ["_law_field_here", "_law_row_here", "_law_other", "_law_k"] ["_law_field_here", "_law_row_here", "_law_other"] (defScope s__law_added) := ⟨rfl, rfl, rfl, by decide +kernel, rfl, by decide +kernel, by decide +kernel⟩
abbrev s__law_times : Stmt := topS 47
theorem sc__law_times : FnScope ["_law_field_here", "_law_one", "_law_other"] ["_law_field_here", "_law_one", "_law_other"] (defScope s__law_times) := ⟨rfl, rfl, rfl, by decide +kernel, rfl, by decide +kernel, by decide +kernel⟩
abbrev s__law_scaled : Stmt := topS 52
theorem sc__law_scaled : FnScope ["_law_field_here", "_law_row_here", "_law_factor", "_law_one"] ["_law_field_here", "_law_row_here", "_law_factor"] (defScope s__law_scaled) := ⟨rfl, rfl, rfl, by decide +kernel, rfl, by decide +kernel, by decide +kernel⟩
abbrev s__law_less : Stmt := topS 48
theorem sc__law_less : FnScope ["_law_field_here", "_law_number_here"] ["_law_field_here", "_law_number_here"] (defScope s__law_less) := ⟨rfl, rfl, rfl, by decide +kernel, rfl, by decide +kernel, by decide +kernel⟩
abbrev s__law_turning_table : Stmt := topS 58
theorem sc__law_turning_table : FnScope ["_law_box", "_law_field_here", "_law_room", "_law_k", "_law_at", "_law_left", "_law_rows"] ["_law_box", "_law_field_here", "_law_room"] (defScope s__law_turning_table) := ⟨rfl, rfl, rfl, by decide +kernel, rfl, by decide +kernel, by decide +kernel⟩
abbrev s__law_stiff_web : Stmt := topS 59
theorem sc__law_stiff_web : FnScope ["_law_box", "_law_field_here", "_law_most_places", "_law_most_ties", "_law_most_room", "_law_many", "_law_room", "_law_ties", "_law_k", "_law_one", "_law_other", "_law_first", "_law_second"] ["_law_box", "_law_field_here", "_law_most_places", "_law_most_ties", "_law_most_room"] (defScope s__law_stiff_web) := ⟨rfl, rfl, rfl, by decide +kernel, rfl, by decide +kernel, by decide +kernel⟩
abbrev s__law_some_web : Stmt := topS 60
theorem sc__law_some_web : FnScope ["_law_box", "_law_most_places", "_law_most_ties", "_law_most_room", "_law_field_here"] ["_law_box", "_law_most_places", "_law_most_ties", "_law_most_room"] (defScope s__law_some_web) := ⟨rfl, rfl, rfl, by decide +kernel, rfl, by decide +kernel, by decide +kernel⟩
abbrev s__law_bent_places : Stmt := topS 66
theorem sc__law_bent_places : FnScope ["_law_box", "_law_web_here", "_law_places_here", "_law_pick"] ["_law_box", "_law_web_here", "_law_places_here"] (defScope s__law_bent_places) := ⟨rfl, rfl, rfl, by decide +kernel, rfl, by decide +kernel, by decide +kernel⟩
abbrev s__law_good_view : Stmt := topS 67
theorem sc__law_good_view : FnScope ["_law_web_here", "_law_places_here", "_law_place"] ["_law_web_here", "_law_places_here"] (defScope s__law_good_view) := ⟨rfl, rfl, rfl, by decide +kernel, rfl, by decide +kernel, by decide +kernel⟩
abbrev s__law_whole : Stmt := topS 61
theorem sc__law_whole : FnScope ["_law_box", "_law_web_here", "_law_room"] ["_law_box", "_law_web_here"] (defScope s__law_whole) := ⟨rfl, rfl, rfl, by decide +kernel, rfl, by decide +kernel, by decide +kernel⟩
abbrev s__law_places : Stmt := topS 65
theorem sc__law_places : FnScope ["_law_box", "_law_web_here", "_law_place", "_law_found"] ["_law_box", "_law_web_here"] (defScope s__law_places) := ⟨rfl, rfl, rfl, by decide +kernel, rfl, by decide +kernel, by decide +kernel⟩
abbrev s__law_cover : Stmt := topS 69
theorem sc__law_cover : FnScope ["_law_box", "_law_web_here", "_law_one", "_law_place", "_law_other", "_law_tie", "_law_low", "_law_high"] ["_law_box", "_law_web_here"] (defScope s__law_cover) := ⟨rfl, rfl, rfl, by decide +kernel, rfl, by decide +kernel, by decide +kernel⟩
abbrev s__law_covers : Stmt := topS 68
theorem sc__law_covers : FnScope ["_law_web_here", "_law_one", "_law_other", "_law_place", "_law_tie", "_law_both_ends", "_law_a", "_law_b"] ["_law_web_here", "_law_one", "_law_other"] (defScope s__law_covers) := ⟨rfl, rfl, rfl, by decide +kernel, rfl, by decide +kernel, by decide +kernel⟩
abbrev s__law_bent_columns : Stmt := topS 62
theorem sc__law_bent_columns : FnScope ["_law_box", "_law_field_here", "_law_columns", "_law_found", "_law_pick", "_law_at", "_law_odd", "_law_bent"] ["_law_box", "_law_field_here", "_law_columns"] (defScope s__law_bent_columns) := ⟨rfl, rfl, rfl, by decide +kernel, rfl, by decide +kernel, by decide +kernel⟩
abbrev s__law_is_number : Stmt := topS 51
theorem sc__law_is_number : FnScope ["_law_field_here", "_law_number_here"] ["_law_field_here", "_law_number_here"] (defScope s__law_is_number) := ⟨rfl, rfl, rfl, by decide +kernel, rfl, by decide +kernel, by decide +kernel⟩
abbrev s__law_numbers_good : Stmt := topS 55
theorem sc__law_numbers_good : FnScope ["_law_field_here", "_law_rows", "_law_row_here", "_law_number_here"] ["_law_field_here", "_law_rows"] (defScope s__law_numbers_good) := ⟨rfl, rfl, rfl, by decide +kernel, rfl, by decide +kernel, by decide +kernel⟩
abbrev s__law_are_columns : Stmt := topS 63
theorem sc__law_are_columns : FnScope ["_law_field_here", "_law_columns", "_law_rooms", "_law_k"] ["_law_field_here", "_law_columns", "_law_rooms"] (defScope s__law_are_columns) := ⟨rfl, rfl, rfl, by decide +kernel, rfl, by decide +kernel, by decide +kernel⟩
abbrev s__law_why : Stmt := topS 41
theorem sc__law_why : FnScope ["_law_ask", "_law_told", "_law_word", "e"] ["_law_ask"] (defScope s__law_why) := ⟨rfl, rfl, rfl, by decide +kernel, rfl, by decide +kernel, by decide +kernel⟩
abbrev s__law_int : Stmt := topS 39
theorem sc__law_int : FnScope ["_law_found"] ["_law_found"] (defScope s__law_int) := ⟨rfl, rfl, rfl, by decide +kernel, rfl, by decide +kernel, by decide +kernel⟩
abbrev s__law_like : Stmt := topS 40
theorem sc__law_like : FnScope ["_law_found", "_law_due", "_law_k"] ["_law_found", "_law_due"] (defScope s__law_like) := ⟨rfl, rfl, rfl, by decide +kernel, rfl, by decide +kernel, by decide +kernel⟩
abbrev s_is_field : Stmt := topS 12
theorem sc_is_field : FnScope ["field"] ["field"] (defScope s_is_field) := ⟨rfl, rfl, rfl, by decide +kernel, rfl, by decide +kernel, by decide +kernel⟩
abbrev s_check_field : Stmt := topS 10
theorem sc_check_field : FnScope ["field"] ["field"] (defScope s_check_field) := ⟨rfl, rfl, rfl, by decide +kernel, rfl, by decide +kernel, by decide +kernel⟩
abbrev s_is_room : Stmt := topS 18
theorem sc_is_room : FnScope ["room"] ["room"] (defScope s_is_room) := ⟨rfl, rfl, rfl, by decide +kernel, rfl, by decide +kernel, by decide +kernel⟩
abbrev s_fits : Stmt := topS 11
theorem sc_fits : FnScope ["field", "number", "top", "bottom"] ["field", "number"] (defScope s_fits) := ⟨rfl, rfl, rfl, by decide +kernel, rfl, by decide +kernel, by decide +kernel⟩
abbrev s_is_short : Stmt := topS 20
theorem sc_is_short : FnScope ["field", "number", "top", "bottom"] ["field", "number"] (defScope s_is_short) := ⟨rfl, rfl, rfl, by decide +kernel, rfl, by decide +kernel, by decide +kernel⟩
abbrev s_is_table : Stmt := topS 21
theorem sc_is_table : FnScope ["field", "table", "room", "length", "row", "number"] ["field", "table", "room", "length"] (defScope s_is_table) := ⟨rfl, rfl, rfl, by decide +kernel, rfl, by decide +kernel, by decide +kernel⟩
abbrev s_is_place : Stmt := topS 19
theorem sc_is_place : FnScope ["sizes", "place"] ["sizes", "place"] (defScope s_is_place) := ⟨rfl, rfl, rfl, by decide +kernel, rfl, by decide +kernel, by decide +kernel⟩
abbrev s_is_tie : Stmt := topS 22
theorem sc_is_tie : FnScope ["field", "sizes", "tie", "one", "other", "room", "first", "second"] ["field", "sizes", "tie"] (defScope s_is_tie) := ⟨rfl, rfl, rfl, by decide +kernel, rfl, by decide +kernel, by decide +kernel⟩
abbrev s_is_web : Stmt := topS 27
theorem sc_is_web : FnScope ["web", "field", "sizes", "ties", "room", "tie"] ["web"] (defScope s_is_web) := ⟨rfl, rfl, rfl, by decide +kernel, rfl, by decide +kernel, by decide +kernel⟩
abbrev s_check_web : Stmt := topS 25
theorem sc_check_web : FnScope ["web"] ["web"] (defScope s_check_web) := ⟨rfl, rfl, rfl, by decide +kernel, rfl, by decide +kernel, by decide +kernel⟩
abbrev s_check_view : Stmt := topS 29
theorem sc_check_view : FnScope ["web", "places", "low", "high", "rising", "place"] ["web", "places"] (defScope s_check_view) := ⟨rfl, rfl, rfl, by decide +kernel, rfl, by decide +kernel, by decide +kernel⟩
abbrev s_is_column : Stmt := topS 23
theorem sc_is_column : FnScope ["field", "room", "column", "number"] ["field", "room", "column"] (defScope s_is_column) := ⟨rfl, rfl, rfl, by decide +kernel, rfl, by decide +kernel, by decide +kernel⟩
abbrev s_are_columns : Stmt := topS 24
theorem sc_are_columns : FnScope ["field", "rooms", "columns", "room", "column"] ["field", "rooms", "columns"] (defScope s_are_columns) := ⟨rfl, rfl, rfl, by decide +kernel, rfl, by decide +kernel, by decide +kernel⟩
abbrev s_check_whole : Stmt := topS 26
theorem sc_check_whole : FnScope ["web", "whole"] ["web", "whole"] (defScope s_check_whole) := ⟨rfl, rfl, rfl, by decide +kernel, rfl, by decide +kernel, by decide +kernel⟩
abbrev s_seen : Stmt := topS 33
theorem sc_seen : FnScope ["web", "places", "whole", "place"] ["web", "places", "whole"] (defScope s_seen) := ⟨rfl, rfl, rfl, by decide +kernel, rfl, by decide +kernel, by decide +kernel⟩
abbrev s__law_seen_so : Stmt := topS 70
theorem sc__law_seen_so : FnScope ["_law_web_here", "_law_places_here", "_law_whole_here", "_law_due", "_law_kept", "_law_found"] ["_law_web_here", "_law_places_here", "_law_whole_here", "_law_due"] (defScope s__law_seen_so) := ⟨rfl, rfl, rfl, by decide +kernel, rfl, by decide +kernel, by decide +kernel⟩
abbrev s__law_view : Stmt := topS 64
theorem sc__law_view : FnScope ["_law_web_here", "_law_places_here", "_law_ties", "_law_one", "_law_other", "_law_room", "_law_first", "_law_second", "_law_place"] ["_law_web_here", "_law_places_here"] (defScope s__law_view) := ⟨rfl, rfl, rfl, by decide +kernel, rfl, by decide +kernel, by decide +kernel⟩
abbrev s_covered : Stmt := topS 31
theorem sc_covered : FnScope ["web", "one", "other", "field", "sizes", "ties", "place", "tie"] ["web", "one", "other"] (defScope s_covered) := ⟨rfl, rfl, rfl, by decide +kernel, rfl, by decide +kernel, by decide +kernel⟩
abbrev s_covers : Stmt := topS 34
theorem sc_covers : FnScope ["web", "one", "other"] ["web", "one", "other"] (defScope s_covers) := ⟨rfl, rfl, rfl, by decide +kernel, rfl, by decide +kernel, by decide +kernel⟩
abbrev s_view_at : Stmt := topS 30
theorem sc_view_at : FnScope ["web", "places", "field", "sizes", "ties", "one", "other", "room", "first", "second", "inner", "place"] ["web", "places"] (defScope s_view_at) := ⟨rfl, rfl, rfl, by decide +kernel, rfl, by decide +kernel, by decide +kernel⟩
abbrev s_view : Stmt := topS 32
theorem sc_view : FnScope ["web", "places"] ["web", "places"] (defScope s_view) := ⟨rfl, rfl, rfl, by decide +kernel, rfl, by decide +kernel, by decide +kernel⟩
abbrev s_law : Stmt := topS 71
theorem sc_law : FnScope ["_law_script", "_law_box", "_law_web_here", "_law_turn", "_law_places_here", "_law_good", "_law_handed", "_law_due", "_law_whole_here", "_law_place", "_law_one", "_law_other", "_law_hands", "_law_words"] ["_law_script"] (defScope s_law) := ⟨rfl, rfl, rfl, by decide +kernel, rfl, by decide +kernel, by decide +kernel⟩
/-! ### said of a def -/
def Def (P : Program) (w : World) (K : PySem.W.Frag) (mg : Str → Option Value) (base : Heap) (x : Str) (k : Nat) (ps : List Str) (sp : Sp) : Prop :=
  ∃ (f : Addr) (fd : FuncData), FnOk P w K mg base CX0 k f fd ps sp ∧ mg x = some (.ref f) ∧ PySem.W.keepIn K (.ref f) = true ∧ Binds K fd ps []
def Raw (K : PySem.W.Frag) (mg : Str → Option Value) (x : Str) (st : Stmt) : Prop := ∃ (f : Addr) (fd : FuncData), Fun K x x st f fd ∧ mg x = some (.ref f)
structure Bn (mg : Str → Option Value) : Prop where
  len : mg "len" = none
  min : mg "min" = none
  set : mg "set" = none
  range : mg "range" = none
  all : mg "all" = none
  abs : mg "abs" = none
  list : mg "list" = none
  gcd : mg "gcd" = some (.builtin "math.gcd")
  isinstance : mg "isinstance" = none
  int : mg "int" = none
  bool : mg "bool" = none
  str : mg "str" = none
  tuple : mg "tuple" = none
  zip : mg "zip" = none
  enumerate : mg "enumerate" = none
  reversed : mg "reversed" = none
  any : mg "any" = none
  sorted : mg "sorted" = none
  sum : mg "sum" = none
/-! ### tests on ints -/
theorem eqI {a b : Int} (e : decide (V.int a = V.int b) = true) : a = b := V.int.inj (of_decide_eq_true e)
theorem neI {a b : Int} (e : ¬ decide (V.int a = V.int b) = true) : a ≠ b := fun q => e (decide_eq_true (congrArg V.int q))
theorem neE {a b : Int} (e : (!decide (V.int a = V.int b)) = true) : a ≠ b := fun q => by
  rw [decide_eq_true (congrArg V.int q)] at e
  cases e
theorem neN {a b : Int} (e : ¬ (!decide (V.int a = V.int b)) = true) : a = b := by
  by_cases h : a = b
  · exact h
  · exfalso
    apply e
    rw [decide_eq_false (fun q => h (V.int.inj q))]
    rfl
theorem decI (a b : Int) : decide (V.int a = V.int b) = decide (a = b) := by
  by_cases h : a = b
  · rw [decide_eq_true h, decide_eq_true (congrArg V.int h)]
  · rw [decide_eq_false h, decide_eq_false (fun q => h (V.int.inj q))]
/-! ### numbers on the heap -/
theorem Same.seqT {K : PySem.W.Frag} {H H' : Hp} {a : Addr} {xs : List V} (e : Same H H') (h : SqT K H a xs) : SqT K H' a xs := by
  rcases h with (h | ⟨o, h⟩) | h
  · exact .inl (.inl (e _ _ h))
  · exact .inl (.inr ⟨o, e _ _ h⟩)
  · exact .inr h
theorem same_new {H : Hp} {p : Addr} {o : HO} (h : H p = none) : Same H (upd H p o) := fun b x e => by
  rw [upd_ne (ne_of_none e h)]
  exact e
def NumV (K : PySem.W.Frag) (H : Hp) (v : V) (q : Pr) : Prop := ∃ p : Addr, v = .ref p ∧ SqT K H p [.int q.1, .int q.2]
theorem NumV.same {K : PySem.W.Frag} {H H' : Hp} {v : V} {q : Pr} (h : NumV K H v q) (e : Same H H') : NumV K H' v q := by
  obtain ⟨p, h1, h2⟩ := h
  exact ⟨p, h1, Same.seqT e h2⟩
theorem NumV.new {K : PySem.W.Frag} {H : Hp} {p : Addr} (a b : Int) : NumV K (upd H p (.tup [.int a, .int b])) (.ref p) (a, b) := ⟨p, rfl, SqT.of upd_same⟩
/-- a number is told, a new object or one that stood -/
def RetN (K : PySem.W.Frag) (H : Hp) (Q : VK) (q : Pr) : Prop := ∀ (H' : Hp) (v : V), Same H H' → NumV K H' v q → Q v H'
theorem RetN.new {K : PySem.W.Frag} {H : Hp} {Q : VK} {a b : Int} {q : Pr} (h : RetN K H Q q) (e : q = (a, b)) {p : Addr} (hp : H p = none) : Q (.ref p) (upd H p (.tup [.int a, .int b])) := by
  subst e
  exact h _ _ (same_new hp) (NumV.new a b)
def Sm (n : Nat) (q : Pr) : Prop := q.1.natAbs < 2 ^ n ∧ q.2.natAbs < 2 ^ n
theorem Sm.mono {n m : Nat} {q : Pr} (h : Sm n q) (k : n ≤ m) : Sm m q := ⟨Nat.lt_of_lt_of_le h.1 (Nat.pow_le_pow_right (by decide) k), Nat.lt_of_lt_of_le h.2 (Nat.pow_le_pow_right (by decide) k)⟩
/-- // by any divisor but 0 that is below 2 ^ 9000 in size -/
def CDivA (_ j : Int) : Prop := j ≠ 0 ∧ j.natAbs.log2 < 9000
theorem op_fdivA {X : Cx} : OpR X (binaryOp .FloorDiv) (rI CDivA fun i j => .int (i.fdiv j)) := opI fun _ _ _ _ _ _ _ hc q => floordiv_int hc.1 q (.inl (PyProof.noPylong_of_log2 hc.2))
theorem divA {i j : Int} {b : Nat} (h : j ≠ 0) (hb : j.natAbs < 2 ^ b) (h0 : 0 < b) (h9 : b ≤ 9000) : CDivA i j := ⟨h, Nat.lt_of_lt_of_le (PySem.Flt.log2_lt_of h0 hb) h9⟩
/-! ### fields -/
theorem IsF.nn {f : Int} (h : IsF f) : 0 ≤ f := by
  rcases h with rfl | ⟨p, _, rfl⟩ <;> omega
theorem IsF.two {f : Int} (h : IsF f) (h0 : f ≠ 0) : 2 ≤ f ∧ f ≤ 97 := by
  rcases h with h | ⟨p, hp, rfl⟩
  · exact absurd h h0
  · have := prime_big p hp
    omega
theorem powm_bd {p b : Int} (hp : 2 ≤ p) : ∀ n, 0 ≤ powm p b n ∧ powm p b n < p
  | 0 => ⟨by show (0 : Int) ≤ 1; omega, by show (1 : Int) < p; omega⟩
  | n + 1 => ⟨Int.emod_nonneg _ (by omega), Int.emod_lt_of_pos _ (by omega)⟩
def nouB (f w : Int) : Bool := if f = 0 then decide (w = 0) else decide (w % f = 0)
theorem nouB0 {w : Int} : nouB 0 w = decide (w = 0) := if_pos rfl
theorem nouB1 {f w : Int} (h : f ≠ 0) : nouB f w = decide (w % f = 0) := if_neg h
theorem gOf_ne {t b : Int} (hb : b ≠ 0) : gOf t b ≠ 0 := by
  have : (Nat.gcd t.natAbs b.natAbs : Nat) ≠ 0 := by
    intro h
    rw [Nat.gcd_eq_zero_iff] at h
    omega
  unfold gOf
  split <;> omega
theorem gOf_le {t b : Int} (hb : b ≠ 0) : (gOf t b).natAbs ≤ b.natAbs := by
  have : Nat.gcd t.natAbs b.natAbs ≤ b.natAbs := Nat.le_of_dvd (by omega) (Nat.gcd_dvd_right _ _)
  unfold gOf
  split <;> omega
theorem tYes_of {σ : L2.St} {H : Hp} {Q : Bool → Hp → Prop} (h : Q true H) : tYes σ H Q := h
theorem tIfS_join {c : TT} {t u : TS} {D : Ends} {σ : L2.St} {H : Hp} (M : L2.St → Hp → Prop) (hM : ∀ σ' H', M σ' H' → D.nx σ' H') (h : (∀ σ' H', M σ' H' → D.nx σ' H') → tIfS c t u D σ H) : tIfS c t u D σ H := h hM
theorem same_seqT_upd {H H' : Hp} (e : Same H H') {D : Addr} {l : List V} {o : HO} (hD : H D = none) (h : H' D = some (.lst l)) : Same H (upd H' D o) := fun b x q => by
  have nb : b ≠ D := ne_of_none q hD
  rw [upd_ne nb]
  exact e b x q
theorem at0 (a b : V) : atI [a, b] 0 = some a := rfl
theorem at1 (a b : V) : atI [a, b] 1 = some b := rfl
theorem ix_nat {n k : Nat} (h : k < n) : ixN n (k : Int) = some k := by
  unfold ixN
  simp [h]
def rMinTwo : List V → Hp → VK → Prop := fun xs H Q => ∃ i j : Int, xs = [.int i, .int j] ∧ Q (.int (if j < i then j else i)) H

/-- // by any divisor but 0 where C does it by itself -/
def CDivB (i j : Int) : Prop := j ≠ 0 ∧ Builtin.divisionGoesByPylong i j = false
theorem op_fdivB {X : Cx} : OpR X (binaryOp .FloorDiv) (rI CDivB fun i j => .int (i.fdiv j)) := opI fun _ _ _ _ _ _ _ hc q => floordiv_int hc.1 q (.inl hc.2)
theorem divB {i j : Int} (hi : i.natAbs < 2 ^ 13500) (hj : j ≠ 0) : CDivB i j := by
  refine ⟨hj, ?_⟩
  have l1 : i.natAbs.log2 < 13500 := PySem.Flt.log2_lt_of (by decide) hi
  show (decide ((if j == 0 then 0 else j.natAbs.log2 / 30 + 1) > 300) && decide ((if i == 0 then 0 else i.natAbs.log2 / 30 + 1) > (if j == 0 then 0 else j.natAbs.log2 / 30 + 1) + 150)) = false
  rw [Bool.and_eq_false_iff]
  by_cases h : (if (j == 0) = true then 0 else j.natAbs.log2 / 30 + 1) > 300
  · right
    refine decide_eq_false ?_
    have : (if (i == 0) = true then 0 else i.natAbs.log2 / 30 + 1) ≤ 450 := by
      split <;> omega
    omega
  · left
    exact decide_eq_false h
theorem IsN.den {q : Pr} (h : IsN 0 q) : 1 ≤ q.2 ∧ Nat.gcd q.1.natAbs q.2.natAbs = 1 := by
  rcases h with ⟨_, h1, h2⟩ | ⟨h, _⟩
  · exact ⟨h1, h2⟩
  · exact absurd rfl h
/-! ## stalkweb.arithmetic -/
def spInv : Sp := fun vs H Q _ => ∃ p b : Int, vs = [.int p, .int b] ∧ 2 ≤ p ∧ p ≤ 97 ∧ 0 ≤ b ∧ b < p ∧ Q (.int (powm p b (p - 2).toNat)) H
theorem len_inverse {vs H Q E} (h : spInv vs H Q E) : vs.length = (["prime", "whole"] : List Str).length := by
  obtain ⟨f, w, rfl, _⟩ := h
  rfl
/-- top over bottom -/
def spLow (K : PySem.W.Frag) : Sp := fun vs H Q _ => ∃ f t b : Int, vs = [.int f, .int t, .int b] ∧ IsF f ∧ nouB f b = false ∧ (f = 0 → t.natAbs < 2 ^ 13500 ∧ b.natAbs < 2 ^ 13500) ∧ RetN K H Q (low f t b)
theorem len_lowest {K vs H Q E} (h : spLow K vs H Q E) : vs.length = (["field", "top", "bottom"] : List Str).length := by
  obtain ⟨f, t, b, rfl, _⟩ := h
  rfl
/-- what a pair must be so that sums and products go through -/
structure Ok (f : Int) (q : Pr) : Prop where
  num : IsN f q
  sm : Sm 6700 q
theorem mul_small {a b : Int} {n m : Nat} (ha : a.natAbs < 2 ^ n) (hb : b.natAbs < 2 ^ m) : (a * b).natAbs < 2 ^ (n + m) := wide_lt ha hb
def spTwo (K : PySem.W.Frag) (g : Int → Pr → Pr → Pr) : Sp := fun vs H Q _ => ∃ (f : Int) (x y : V) (p q : Pr), vs = [.int f, x, y] ∧ IsF f ∧ NumV K H x p ∧ NumV K H y q ∧ Ok f p ∧ Ok f q ∧ RetN K H Q (g f p q)
theorem len_two {K g vs H Q E} (h : spTwo K g vs H Q E) : vs.length = (["field", "one", "other"] : List Str).length := by
  obtain ⟨f, x, y, p, q, rfl, _⟩ := h
  rfl
theorem big_sum {a b c d : Int} (ha : a.natAbs < 2 ^ 6700) (hb : b.natAbs < 2 ^ 6700) (hc : c.natAbs < 2 ^ 6700) (hd : d.natAbs < 2 ^ 6700) : (a * b + c * d).natAbs < 2 ^ 13500 := by
  have h1 := mul_small ha hb
  have h2 := mul_small hc hd
  have h3 := Int.natAbs_add_le (a * b) (c * d)
  have h4 : (2 : Nat) ^ (6700 + 6700 + 1) ≤ 2 ^ 13500 := Nat.pow_le_pow_right (by decide) (by decide)
  rw [Nat.pow_succ] at h4
  omega
theorem big_mul {a b : Int} (ha : a.natAbs < 2 ^ 6700) (hb : b.natAbs < 2 ^ 6700) : (a * b).natAbs < 2 ^ 13500 := Nat.lt_trans (mul_small ha hb) (Nat.pow_lt_pow_right (by decide) (by decide))
theorem big_one {a : Int} (ha : a.natAbs < 2 ^ 6700) : a.natAbs < 2 ^ 13500 := Nat.lt_trans ha (Nat.pow_lt_pow_right (by decide) (by decide))
theorem wm {i j : Int} (hi : i.natAbs < 2 ^ 6700) (hj : j.natAbs < 2 ^ 6700) : CMulW i j := wide_mul hi hj (by decide) (by decide) (by decide)
def spOne (K : PySem.W.Frag) (nz : Bool) (g : Int → Pr → Pr) : Sp := fun vs H Q _ => ∃ (f : Int) (x : V) (p : Pr), vs = [.int f, x] ∧ IsF f ∧ NumV K H x p ∧ Ok f p ∧ (nz = true → p.1 ≠ 0) ∧ RetN K H Q (g f p)
theorem len_one {K nz g vs H Q E} (h : spOne K nz g vs H Q E) : vs.length = (["field", "number"] : List Str).length := by
  obtain ⟨f, x, p, rfl, _⟩ := h
  rfl
theorem nou_num {f : Int} {p : Pr} (hf : IsF f) (h : IsN f p) (h0 : p.1 ≠ 0) : nouB f p.1 = false := by
  rcases h with ⟨rfl, _⟩ | ⟨hn, _, h1, h2⟩
  · rw [nouB0]
    exact decide_eq_false h0
  · rw [nouB1 hn, Int.emod_eq_of_lt h1 h2]
    exact decide_eq_false h0
/-! ## stalkweb.numbers, of what is good -/
def fieldsL : List Int := [0, 2, 3, 5, 7, 11, 13, 17, 19, 23, 29, 31, 37, 41, 43, 47, 53, 59, 61, 67, 71, 73, 79, 83, 89, 97]
def isFB (f : Int) : Bool := fieldsL.any fun x => decide (x = f)
theorem isFB_iff {f : Int} : isFB f = true ↔ IsF f := by
  unfold isFB
  rw [List.any_eq_true]
  constructor
  · rintro ⟨x, hx, e⟩
    have e := of_decide_eq_true e
    subst e
    have key : ∀ x ∈ fieldsL, x = 0 ∨ x.toNat ∈ primesN ∧ x = (x.toNat : Int) := by decide +kernel
    rcases key x hx with h | ⟨h1, h2⟩
    · exact .inl h
    · exact .inr ⟨_, h1, h2⟩
  · rintro (rfl | ⟨p, hp, rfl⟩)
    · exact ⟨0, by decide, by decide⟩
    · have key : ∀ p ∈ primesN, (p : Int) ∈ fieldsL := by decide +kernel
      exact ⟨_, key p hp, decide_eq_true rfl⟩
/-- FIELDS as it stands at the top -/
def FieldsAt (K : PySem.W.Frag) (mg : Str → Option Value) : Prop := ∃ a : Addr, mg "FIELDS" = some (.ref a) ∧ ∀ H : Hp, SqT K H a (fieldsL.map V.int)
theorem inV_int (f : Int) : ∀ l : List Int, inV (V.int f) (l.map V.int) = l.any fun x => decide (x = f)
  | [] => rfl
  | x :: l => by
    show (eqV (V.int x) (V.int f) || inV (V.int f) (l.map V.int)) = (decide (x = f) || l.any fun x => decide (x = f))
    rw [inV_int f l]
    congr 1
def spIsF : Sp := fun vs H Q _ => ∃ f : Int, vs = [.int f] ∧ Q (.bl (isFB f)) H
theorem len_is_field {vs H Q E} (h : spIsF vs H Q E) : vs.length = (["field"] : List Str).length := by
  obtain ⟨f, rfl, _⟩ := h
  rfl
theorem d_is_field {P : Program} {w : World} {K : PySem.W.Frag} {mg : Str → Option Value} {base : Heap} (R : Raw K mg "is_field" s_is_field) (TF : FieldsAt K mg)  : Def P w K mg base "is_field" 1 ["field"] (spIsF) := by
  obtain ⟨f, fd, F, m⟩ := R
  refine ⟨f, fd, F.ok sc_is_field (fun vs H Q E h => ?_) (fun cdv A outer s H vs Q E hr h => ?_), m, F.kp, F.binds (ps := ["field"]) fun _ _ _ _ _ _ us hl => match us, hl with | [_], _ => rfl⟩
  · exact len_is_field h

  · obtain ⟨a, rfl, q⟩ := h
    obtain ⟨a_FIELDS, m_FIELDS, sF⟩ := TF
    refine ⟨_, (pss_one (ps_ret (pe_cmpR op_in_seq (pv 0) (pe_glob (v := V.ref a_FIELDS) (by rfl) m_FIELDS rfl) (by rfl)))), ?_⟩
    refine ⟨_, rfl, a_FIELDS, _, rfl, .inr (sF H), rfl, by decide +kernel, ?_⟩
    show Q (V.bl (if false = true then !inV (V.int a) (fieldsL.map V.int) else inV (V.int a) (fieldsL.map V.int))) H
    rw [if_neg Bool.false_ne_true, inV_int]
    exact q
/-- whether it is a number of the field -/
def isNB (f : Int) (q : Pr) : Bool := if f = 0 then decide (1 ≤ q.2) && decide (((Nat.gcd q.1.natAbs q.2.natAbs : Nat) : Int) = 1) else decide (q.2 = 1) && (decide (0 ≤ q.1) && decide (q.1 < f))
theorem isNB_iff {f : Int} {q : Pr} : isNB f q = true ↔ IsN f q := by
  unfold isNB IsN
  by_cases h : f = 0
  · subst h
    rw [if_pos rfl, Bool.and_eq_true, decide_eq_true_iff, decide_eq_true_iff]
    constructor
    · rintro ⟨h1, h2⟩
      refine .inl ⟨rfl, h1, ?_⟩
      show Nat.gcd q.1.natAbs q.2.natAbs = 1
      omega
    · rintro (⟨_, h1, h2⟩ | ⟨h, _⟩)
      · have h2 : Nat.gcd q.1.natAbs q.2.natAbs = 1 := h2
        exact ⟨h1, by omega⟩
      · exact absurd rfl h
  · rw [if_neg h, Bool.and_eq_true, Bool.and_eq_true, decide_eq_true_iff, decide_eq_true_iff, decide_eq_true_iff]
    constructor
    · rintro ⟨h1, h2, h3⟩
      exact .inr ⟨h, h1, h2, h3⟩
    · rintro (⟨h', _⟩ | ⟨_, h1, h2, h3⟩)
      · exact absurd h' h
      · exact ⟨h1, h2, h3⟩
def spFits (K : PySem.W.Frag) : Sp := fun vs H Q _ => ∃ (f : Int) (x : V) (p : Pr), vs = [.int f, x] ∧ NumV K H x p ∧ Q (.bl (isNB f p)) H
theorem len_fits {K vs H Q E} (h : spFits K vs H Q E) : vs.length = (["field", "number"] : List Str).length := by
  obtain ⟨f, x, p, rfl, _⟩ := h
  rfl
theorem d_fits {P : Program} {w : World} {K : PySem.W.Frag} {mg : Str → Option Value} {base : Heap} (R : Raw K mg "fits" s_fits) (B : Bn mg)  : Def P w K mg base "fits" 1 ["field", "number"] (spFits K) := by
  obtain ⟨f, fd, F, m⟩ := R
  refine ⟨f, fd, F.ok sc_fits (fun vs H Q E h => ?_) (fun cdv A outer s H vs Q E hr h => ?_), m, F.kp, F.binds (ps := ["field", "number"]) fun _ _ _ _ _ _ us hl => match us, hl with | [_, _], _ => rfl⟩
  · exact len_fits h

  · obtain ⟨a, x, p, rfl, ⟨px, rfl, hx⟩, q⟩ := h
    refine ⟨_, (pss_cons (ps_asg (pv 1) (pg_tup (by rfl) (pgs_cons (pg_name (i := 2) sc_fits.nd rfl (Or.inl rfl)) (pgs_cons (pg_name (i := 3) sc_fits.nd rfl (Or.inl rfl)) pgs_nil)))) (pss_cons (ps_if (pt_cmpR op_eq (pv 0) pe_int (nomark _)) (pss_one (ps_ret (pe_and (pe_cmpR op_ge (pv 3) pe_int (nomark _)) (pe_one (pe_cmpR op_eq (pe_callBfun cr_gcd (by rfl) B.gcd (pa_cons (pv 2) (pa_cons (pv 3) pa_nil))) pe_int (nomark _)))))) pss_nil) (pss_one (ps_ret (pe_and (pe_cmpR op_eq (pv 3) pe_int (nomark _)) (pe_one (pe_chain op_le op_lt pe_int (pv 2) (pv 0)))))))), ?_⟩
    refine ⟨_, rfl, px, _, rfl, hx, rfl, _, _, rfl, _, _, rfl, rfl, ?_⟩
    refine ⟨_, rfl, rfl, _, rfl, ite2 (fun e => ?_) (fun e => ?_)⟩
    · have e := eqI e
      subst e
      have q : Q (.bl (decide (1 ≤ p.2) && decide (((Nat.gcd p.1.natAbs p.2.natAbs : Nat) : Int) = 1))) H := q
      refine ⟨_, rfl, _, _, rfl, rfl, _, rfl, ite2 (fun e => ?_) (fun e => ?_)⟩
      · refine ⟨_, rfl, _, rfl, _, _, rfl, rfl, ?_⟩
        rw [decI]
        rw [e, Bool.true_and] at q
        exact q
      · rw [eq_false_of_ne_true e, Bool.false_and] at q
        exact q
    · have e := neI e
      have q : Q (.bl (decide (p.2 = 1) && (decide (0 ≤ p.1) && decide (p.1 < a)))) H := by
        have q := q
        unfold isNB at q
        rw [if_neg e] at q
        exact q
      refine ⟨_, rfl, rfl, _, rfl, ?_⟩
      rw [decI]
      refine ite2 (fun e => ?_) (fun e => ?_)
      · rw [e, Bool.true_and] at q
        refine ⟨_, rfl, _, _, rfl, rfl, _, rfl, ite2 (fun e => ?_) (fun e => ?_)⟩
        · rw [e, Bool.true_and] at q
          exact ⟨_, rfl, _, _, rfl, rfl, q⟩
        · rw [eq_false_of_ne_true e, Bool.false_and] at q
          exact q
      · rw [eq_false_of_ne_true e, Bool.false_and] at q
        exact q
/-- values that are numbers -/
def NumsV (K : PySem.W.Frag) (H : Hp) (vs : List V) (qs : List Pr) : Prop := Paired (NumV K H) vs qs
theorem NumsV.same {K : PySem.W.Frag} {H H' : Hp} (e : Same H H') : ∀ {vs : List V} {qs : List Pr}, NumsV K H vs qs → NumsV K H' vs qs
  | _, _, .nil => .nil
  | _, _, .cons h t => .cons (h.same e) (NumsV.same e t)
theorem NumsV.get {K : PySem.W.Frag} {H : Hp} : ∀ {vs : List V} {qs : List Pr} {i : Nat} {x : V}, NumsV K H vs qs → vs[i]? = some x → ∃ q, qs[i]? = some q ∧ NumV K H x q
  | _, _, _, _, .nil, e => by simp at e
  | _, _, 0, _, .cons r _, e => by simp at e; subst e; exact ⟨_, rfl, r⟩
  | _, _, i + 1, x, .cons _ t, e => by
    obtain ⟨u, h1, h2⟩ := NumsV.get (i := i) (x := x) t (by simpa using e)
    exact ⟨u, by simpa using h1, h2⟩

/-! ## stalkweb.elimination -/
open Lin
theorem dp_num {K : PySem.W.Frag} {H : Hp} {v : V} {q : Pr} (h : NumV K H v q) : Dp K H v (.tuple [.int q.1, .int q.2]) := by
  obtain ⟨p, rfl, h⟩ := h
  exact .tup h (.cons (.int _) (.cons (.int _) .nil))
theorem eqv_pr (p q : Pr) : PyData.eqv (.tuple [.int p.1, .int p.2]) (.tuple [.int q.1, .int q.2]) = decide (p = q) := by
  obtain ⟨a, b⟩ := p
  obtain ⟨c, d⟩ := q
  show ((a == c) && ((b == d) && true)) = decide ((a, b) = (c, d))
  by_cases h : a = c
  · by_cases h2 : b = d
    · subst h; subst h2; simp
    · simp [h2]
  · simp [h]
theorem eq_val {K : PySem.W.Frag} {H : Hp} {x y : V} {p q : Pr} {Q : VK} (hx : NumV K H x p) (hy : NumV K H y q) (k : Q (.bl (decide (p = q))) H) : rEqD K x y H Q :=
  ⟨_, _, dp_num hx, dp_num hy, rfl, rfl, by rw [eqv_pr]; exact k⟩
theorem ne_val {K : PySem.W.Frag} {H : Hp} {x y : V} {p q : Pr} {Q : VK} (hx : NumV K H x p) (hy : NumV K H y q) (k : Q (.bl (!decide (p = q))) H) : rNeD K x y H Q :=
  ⟨_, _, dp_num hx, dp_num hy, rfl, rfl, by rw [eqv_pr]; exact k⟩
theorem tC_go {v : V} {σ : L2.St} {H : Hp} {Q : VK} (h : Q v H) : tC v σ H Q := h
/-- NOUGHT as it stands at the top -/
def NoughtAt (K : PySem.W.Frag) (mg : Str → Option Value) : Prop := ∃ a : Addr, mg "NOUGHT" = some (.ref a) ∧ ∀ H : Hp, SqT K H a [.int 0, .int 1]
theorem SqT.put {K : PySem.W.Frag} {H : Hp} {D a : Addr} {xs ys : List V} {o : HO} (h : SqT K H a ys) (hD : H D = some (.lst xs)) : SqT K (upd H D o) a ys := by
  have ne : ∀ u, H a = some u → (∀ z, u ≠ .lst z) → a ≠ D := fun u hu hn e => by
    rw [e, hD] at hu
    exact hn _ (Option.some.inj hu).symm
  rcases h with (h | ⟨o', h⟩) | h
  · refine .inl (.inl ?_)
    rw [upd_ne (ne _ h fun z e => by cases e)]
    exact h
  · refine .inl (.inr ⟨o', ?_⟩)
    rw [upd_ne (ne _ h fun z e => by cases e)]
    exact h
  · exact .inr h
theorem NumV.putL {K : PySem.W.Frag} {H : Hp} {D : Addr} {xs : List V} {o : HO} {v : V} {q : Pr} (h : NumV K H v q) (hD : H D = some (.lst xs)) : NumV K (upd H D o) v q := by
  obtain ⟨p, h1, h2⟩ := h
  exact ⟨p, h1, SqT.put h2 hD⟩
theorem NumsV.snoc {K : PySem.W.Frag} {H : Hp} : ∀ {vs : List V} {qs : List Pr} {v : V} {q : Pr}, NumsV K H vs qs → NumV K H v q → NumsV K H (vs ++ [v]) (qs ++ [q])
  | _, _, _, _, .nil, h => .cons h .nil
  | _, _, _, _, .cons r t, h => .cons r (NumsV.snoc t h)
theorem NumsV.map {K : PySem.W.Frag} {H H' : Hp} (g : ∀ v q, NumV K H v q → NumV K H' v q) : ∀ {vs : List V} {qs : List Pr}, NumsV K H vs qs → NumsV K H' vs qs
  | _, _, .nil => .nil
  | _, _, .cons r t => .cons (g _ _ r) (NumsV.map g t)
theorem Sq.same {K : PySem.W.Frag} {H H' : Hp} {t : Bool} {a : Addr} {xs : List V} (e : Same H H') (h : ZM.Sq t K H a xs) : ZM.Sq t K H' a xs := by
  cases t with
  | true => exact Same.seqT e h
  | false => exact e.seq h
theorem ix_sq {K : PySem.W.Frag} {H : Hp} {t : Bool} {a : Addr} {xs : List V} {i : Int} {v : V} {Q : VK} (h : ZM.Sq t K H a xs) (hv : atI xs i = some v) (k : Q v H) : rIx K (.ref a) (.int i) H Q := by
  cases t with
  | true => exact .inr (.inl ⟨a, xs, i, v, rfl, rfl, h, hv, k⟩)
  | false => exact .inl ⟨a, xs, i, v, rfl, rfl, h, hv, k⟩
/-- a row of numbers, a list or a tuple -/
def RowV (K : PySem.W.Frag) (H : Hp) {f : Int} (F : Fd f) (v : V) (l : List F.F) : Prop := ∃ (t : Bool) (a : Addr) (xs : List V), v = .ref a ∧ ZM.Sq t K H a xs ∧ NumsV K H xs (l.map F.enc)
section
variable {K : PySem.W.Frag} {H H' : Hp} {f : Int} {F : Fd f} {v : V} {l m : List F.F}
theorem RowV.same (h : RowV K H F v l) (e : Same H H') : RowV K H' F v l := by
  obtain ⟨t, a, xs, h1, h2, h3⟩ := h
  exact ⟨t, a, xs, h1, Sq.same e h2, NumsV.same e h3⟩
theorem NumsV.len {vs : List V} {qs : List Pr} (h : NumsV K H vs qs) : vs.length = qs.length := Paired.length h
theorem NumsV.pick {vs : List V} (h : NumsV K H vs (l.map F.enc)) {i : Nat} (hi : i < l.length) : letI := F.fld; ∃ x, vs[i]? = some x ∧ NumV K H x (F.enc (vec l i)) := by
  letI := F.fld
  letI := F.dec
  have hl := NumsV.len h
  rw [List.length_map] at hl
  have e : vs[i]? = some vs[i] := List.getElem?_eq_getElem (by omega)
  obtain ⟨q, h1, h2⟩ := NumsV.get h e
  rw [List.getElem?_map, vec_lt hi] at h1
  cases h1
  exact ⟨_, e, h2⟩
theorem enc_zero {x : F.F} : letI := F.fld; F.enc x = (0, 1) ↔ x = 0 := by
  letI := F.fld
  constructor
  · intro e
    apply F.inj
    rw [e, F.zero]
  · intro e
    rw [e]
    exact F.zero
end
/-- a new object -/
def Fr (H : Hp) (v : V) : Prop := ∃ b : Addr, v = .ref b ∧ H b = none
/-- a number that goes through sums and products -/
def Sz6 {f : Int} (F : Fd f) (x : F.F) : Prop := Sm 6700 (F.enc x)
def spSwept (K : PySem.W.Frag) : Sp := fun vs H Q _ => ∃ (f : Int) (row by' : V) (p : Nat) (F : Fd f) (l m : List F.F), vs = [.int f, row, by', .int (p : Nat)] ∧ IsF f ∧ RowV K H F row l ∧ RowV K H F by' m ∧ l.length = m.length ∧ p < l.length ∧ l.length ≤ 1000 ∧
  (∀ j, letI := F.fld; Sz6 F (vec l j)) ∧ (∀ j, letI := F.fld; Sz6 F (vec m j)) ∧ (letI := F.fld; Sz6 F (-(vec l p))) ∧ (∀ j, letI := F.fld; Sz6 F ((-(vec l p)) * vec m j)) ∧ ∀ H' v, Same H H' → (letI := F.fld; letI := F.dec; RowV K H' F v (swp l m p)) → ((v = row ∧ (letI := F.fld; letI := F.dec; swp l m p = l)) ∨ Fr H v) → Q v H'
theorem len_swept {K vs H Q E} (h : spSwept K vs H Q E) : vs.length = (["field", "row", "by", "place"] : List Str).length := by
  obtain ⟨f, row, by', p, F, l, m, rfl, _⟩ := h
  rfl
open Lin
theorem enc_top {f : Int} {F : Fd f} {x : F.F} (hx : letI := F.fld; x ≠ 0) : (F.enc x).1 ≠ 0 := by
  letI := F.fld
  intro e
  apply hx
  apply F.inj
  rw [F.zero]
  rcases F.num x with ⟨h0, h1, h2⟩ | ⟨_, h1, _⟩
  · have h2 : Nat.gcd (F.enc x).1.natAbs (F.enc x).2.natAbs = 1 := h2
    rw [e] at h2
    have h3 : (F.enc x).2.natAbs = 1 := by simpa using h2
    exact Prod.ext e (by show (F.enc x).2 = 1; omega)
  · exact Prod.ext e h1
def spScaled (K : PySem.W.Frag) : Sp := fun vs H Q _ => ∃ (f : Int) (row : V) (p : Nat) (F : Fd f) (l : List F.F), vs = [.int f, row, .int (p : Nat)] ∧ IsF f ∧ RowV K H F row l ∧ p < l.length ∧ l.length ≤ 1000 ∧ (letI := F.fld; vec l p ≠ 0) ∧
  (∀ j, letI := F.fld; Sz6 F (vec l j)) ∧ (letI := F.fld; Sz6 F ((vec l p)⁻¹)) ∧ ∀ H' v, Same H H' → (letI := F.fld; RowV K H' F v (scl l p)) → Fr H v → Q v H'
theorem len_scaled {K vs H Q E} (h : spScaled K vs H Q E) : vs.length = (["field", "row", "place"] : List Str).length := by
  obtain ⟨f, row, p, F, l, rfl, _⟩ := h
  rfl
/-! ### rows -/
def RowsV (K : PySem.W.Frag) (H : Hp) {f : Int} (F : Fd f) (xs : List V) (L : List (List F.F)) : Prop := Paired (fun v l => RowV K H F v l) xs L
section
variable {K : PySem.W.Frag} {H H' : Hp} {f : Int} {F : Fd f}
theorem RowsV.same (e : Same H H') : ∀ {xs : List V} {L : List (List F.F)}, RowsV K H F xs L → RowsV K H' F xs L
  | _, _, .nil => .nil
  | _, _, .cons h t => .cons (h.same e) (RowsV.same e t)
theorem RowsV.len {xs : List V} {L : List (List F.F)} (h : RowsV K H F xs L) : xs.length = L.length := Paired.length h
theorem RowsV.pick : ∀ {xs : List V} {L : List (List F.F)} {i : Nat} {x : V}, RowsV K H F xs L → xs[i]? = some x → ∃ l, L[i]? = some l ∧ RowV K H F x l
  | _, _, i, x, .nil, e => by simp at e
  | _, _, 0, x, .cons h t, e => by
    have e := Option.some.inj ((List.getElem?_cons_zero ..).symm.trans e)
    subst e
    exact ⟨_, rfl, h⟩
  | _, _, i + 1, x, .cons h t, e => by
    obtain ⟨u, h1, h2⟩ := RowsV.pick (i := i) (x := x) t (by simpa using e)
    exact ⟨u, by simpa using h1, h2⟩
end
theorem fst_eq {F : Type} [Lean.Grind.Field F] [DecidableEq F] {rows : List (List F)} {p i : Nat} {r : List F} (hr : rows[i]? = some r) (h : vec r p ≠ 0) (h0 : ∀ k, k < i → ∀ x, rows[k]? = some x → vec x p = 0) : fst rows p = some i := by
  have hi := (List.getElem?_eq_some_iff.mp hr).1
  have e : rows[i] = r := (List.getElem?_eq_some_iff.mp hr).2
  refine List.findIdx?_eq_some_iff_getElem.mpr ⟨hi, ?_, fun j hj => ?_⟩
  · rw [e]
    exact decide_eq_true h
  · have := h0 j hj rows[j] (List.getElem?_eq_getElem (by omega))
    simp [this]
theorem fst_nil {F : Type} [Lean.Grind.Field F] [DecidableEq F] {rows : List (List F)} {p : Nat} (h0 : ∀ k, k < rows.length → ∀ x, rows[k]? = some x → vec x p = 0) : fst rows p = none := by
  refine List.findIdx?_eq_none_iff.mpr fun x hx => ?_
  obtain ⟨k, hk, e⟩ := List.getElem_of_mem hx
  have := h0 k hk x (by rw [List.getElem?_eq_getElem hk, e])
  simp [this]
def optV : Option Nat → V
  | none => .non
  | some i => .int (i : Nat)
def spFirst (K : PySem.W.Frag) : Sp := fun vs H Q _ => ∃ (f : Int) (a : Addr) (xs : List V) (p : Nat) (F : Fd f) (L : List (List F.F)), vs = [.ref a, .int (p : Nat)] ∧ SqL K H a xs ∧ RowsV K H F xs L ∧ (∀ l ∈ L, p < l.length) ∧
  ∀ H', Same H H' → Q (optV (letI := F.fld; letI := F.dec; fst L p)) H'
theorem len_first_at {K vs H Q E} (h : spFirst K vs H Q E) : vs.length = (["rows", "place"] : List Str).length := by
  obtain ⟨f, a, xs, p, F, L, rfl, _⟩ := h
  rfl
open Lin
/-- all but Ds is kept -/
def KeepL (Ds : List Addr) (H H' : Hp) : Prop := ∀ b o, b ∉ Ds → H b = some o → H' b = some o
theorem KeepL.refl (Ds : List Addr) (H : Hp) : KeepL Ds H H := fun _ _ _ e => e
theorem KeepL.trans {Ds : List Addr} {H H1 H2 : Hp} (a : KeepL Ds H H1) (b : KeepL Ds H1 H2) : KeepL Ds H H2 := fun c o n e => b c o n (a c o n e)
theorem Same.k1 {Ds : List Addr} {H H' : Hp} (s : Same H H') : KeepL Ds H H' := fun b o _ e => s b o e
theorem k1_put {Ds : List Addr} {D : Addr} {H : Hp} {o : HO} (h : D ∈ Ds) : KeepL Ds H (upd H D o) := fun b u n e => by
  rw [upd_ne (fun z => n (by rw [z]; exact h))]
  exact e
/-- lists, or not yet there -/
def LstAt (H : Hp) (Ds : List Addr) : Prop := ∀ D ∈ Ds, ∀ o, H D = some o → ∃ zs, o = .lst zs
theorem LstAt.one {H : Hp} {D : Addr} {zs : List V} (h : H D = some (.lst zs)) : LstAt H [D] := fun b hb o ho => by
  rw [List.mem_singleton.mp hb, h] at ho
  cases ho
  exact ⟨_, rfl⟩
theorem LstAt.two {H : Hp} {D D2 : Addr} {zs ys : List V} (h2 : H D2 = some (.lst ys)) (h : H D = some (.lst zs)) : LstAt H [D2, D] := fun b hb o ho => by
  rcases List.mem_cons.mp hb with e | hb
  · rw [e, h2] at ho
    cases ho
    exact ⟨_, rfl⟩
  · rw [List.mem_singleton.mp hb, h] at ho
    cases ho
    exact ⟨_, rfl⟩
theorem SqT.k1 {K : PySem.W.Frag} {H H' : Hp} {Ds : List Addr} {a : Addr} {ys : List V} (h : SqT K H a ys) (hD : LstAt H Ds) (k : KeepL Ds H H') : SqT K H' a ys := by
  have ne : ∀ u, H a = some u → (∀ z, u ≠ .lst z) → a ∉ Ds := fun u hu hn e => by
    obtain ⟨zs, hz⟩ := hD a e u hu
    exact hn zs hz
  rcases h with (h | ⟨o', h⟩) | h
  · exact .inl (.inl (k _ _ (ne _ h fun z e => by cases e) h))
  · exact .inl (.inr ⟨o', k _ _ (ne _ h fun z e => by cases e) h⟩)
  · exact .inr h
theorem SqL.k1 {K : PySem.W.Frag} {H H' : Hp} {Ds : List Addr} {a : Addr} {ys : List V} (h : SqL K H a ys) (ne : H a = none ∨ a ∉ Ds) (k : KeepL Ds H H') : SqL K H' a ys := by
  have n : ∀ u, H a = some u → a ∉ Ds := fun u hu => by
    rcases ne with e | e
    · rw [e] at hu
      cases hu
    · exact e
  rcases h with (h | ⟨o', h⟩) | h
  · exact .inl (.inl (k _ _ (n _ h) h))
  · exact .inl (.inr ⟨o', k _ _ (n _ h) h⟩)
  · exact .inr h
theorem NumV.k1 {K : PySem.W.Frag} {H H' : Hp} {Ds : List Addr} {v : V} {q : Pr} (h : NumV K H v q) (hD : LstAt H Ds) (k : KeepL Ds H H') : NumV K H' v q := by
  obtain ⟨p, h1, h2⟩ := h
  exact ⟨p, h1, SqT.k1 h2 hD k⟩
/-- a row, whatever becomes of Ds -/
def RowD (K : PySem.W.Frag) (H : Hp) {f : Int} (F : Fd f) (Ds : List Addr) (v : V) (l : List F.F) : Prop := ∀ H', KeepL Ds H H' → RowV K H' F v l
section
variable {K : PySem.W.Frag} {H H' : Hp} {f : Int} {F : Fd f} {Ds : List Addr} {v : V} {l : List F.F}
theorem RowD.go (h : RowD K H F Ds v l) (k : KeepL Ds H H') : RowD K H' F Ds v l := fun H2 k2 => h H2 (k.trans k2)
theorem RowD.now (h : RowD K H F Ds v l) : RowV K H F v l := h H (KeepL.refl Ds H)
theorem RowD.mk (h : RowV K H F v l) (hv : ∀ b, v = .ref b → H b = none ∨ b ∉ Ds) (hD : LstAt H Ds) : RowD K H F Ds v l := by
  intro H2 k
  obtain ⟨t, a, xs, rfl, hx, hn⟩ := h
  refine ⟨t, a, xs, rfl, ?_, NumsV.map (fun v q h => h.k1 hD k) hn⟩
  cases t with
  | true => exact SqT.k1 hx hD k
  | false => exact SqL.k1 hx (hv a rfl) k
/-- one list more that is not yet there -/
theorem RowD.more {D2 : Addr} (h : RowD K H F Ds v l) (n : H D2 = none) : RowD K H F (D2 :: Ds) v l := fun H2 k => h H2 fun b o nb e => k b o (fun hm => by
  rcases List.mem_cons.mp hm with z | z
  · rw [z, n] at e
    cases e
  · exact nb z) e
theorem RowD.less {Ds' : List Addr} (h : RowD K H F Ds v l) (s : ∀ b ∈ Ds', b ∈ Ds) : RowD K H F Ds' v l := fun H2 k => h H2 fun b o nb e => k b o (fun hm => nb (s b hm)) e
def RowsD (K : PySem.W.Frag) (H : Hp) {f : Int} (F : Fd f) (Ds : List Addr) (xs : List V) (L : List (List F.F)) : Prop := Paired (fun v l => RowD K H F Ds v l) xs L
theorem RowsD.map {Ds' : List Addr} (g : ∀ v l, RowD K H F Ds v l → RowD K H' F Ds' v l) : ∀ {xs : List V} {L : List (List F.F)}, RowsD K H F Ds xs L → RowsD K H' F Ds' xs L
  | _, _, .nil => .nil
  | _, _, .cons h t => .cons (g _ _ h) (RowsD.map g t)
theorem RowsD.go (k : KeepL Ds H H') {xs : List V} {L : List (List F.F)} (h : RowsD K H F Ds xs L) : RowsD K H' F Ds xs L := RowsD.map (fun _ _ h => h.go k) h
theorem RowsD.rows : ∀ {xs : List V} {L : List (List F.F)}, RowsD K H F Ds xs L → RowsV K H F xs L
  | _, _, .nil => .nil
  | _, _, .cons h t => .cons h.now (RowsD.rows t)
theorem RowsD.of {D : Addr} (hD : H D = none) : ∀ {xs : List V} {L : List (List F.F)}, RowsV K H F xs L → RowsD K H F [D] xs L
  | _, _, .nil => .nil
  | _, _, .cons h t => .cons (RowD.mk h (fun b _ => by
      by_cases e : b = D
      · exact .inl (by rw [e]; exact hD)
      · exact .inr (fun z => e (List.mem_singleton.mp z))) (fun b hb o ho => by
        rw [List.mem_singleton.mp hb, hD] at ho
        cases ho)) (RowsD.of hD t)
theorem RowsD.len {xs : List V} {L : List (List F.F)} (h : RowsD K H F Ds xs L) : xs.length = L.length := Paired.length h
theorem RowsD.pick : ∀ {xs : List V} {L : List (List F.F)} {i : Nat} {l : List F.F}, RowsD K H F Ds xs L → L[i]? = some l → ∃ x, xs[i]? = some x ∧ RowD K H F Ds x l
  | _, _, i, x, .nil, e => by simp at e
  | _, _, 0, x, .cons h t, e => by
    have e := Option.some.inj ((List.getElem?_cons_zero ..).symm.trans e)
    subst e
    exact ⟨_, rfl, h⟩
  | _, _, i + 1, x, .cons h t, e => by
    obtain ⟨u, h1, h2⟩ := RowsD.pick (i := i) (l := x) t (by simpa using e)
    exact ⟨u, by simpa using h1, h2⟩
theorem RowsD.take : ∀ {xs : List V} {L : List (List F.F)} (i : Nat), RowsD K H F Ds xs L → RowsD K H F Ds (xs.take i) (L.take i)
  | _, _, 0, _ => by
    rw [List.take_zero, List.take_zero]
    exact .nil
  | _, _, i + 1, .nil => .nil
  | _, _, i + 1, .cons h t => .cons h (RowsD.take i t)
theorem RowsD.drop : ∀ {xs : List V} {L : List (List F.F)} (i : Nat), RowsD K H F Ds xs L → RowsD K H F Ds (xs.drop i) (L.drop i)
  | _, _, 0, h => h
  | _, _, i + 1, .nil => .nil
  | _, _, i + 1, .cons h t => RowsD.drop i t
theorem RowsD.app : ∀ {xs ys : List V} {L M : List (List F.F)}, RowsD K H F Ds xs L → RowsD K H F Ds ys M → RowsD K H F Ds (xs ++ ys) (L ++ M)
  | _, _, _, _, .nil, h => h
  | _, _, _, _, .cons h t, g => .cons h (RowsD.app t g)
theorem RowsD.snoc {xs : List V} {L : List (List F.F)} (h : RowsD K H F Ds xs L) (g : RowD K H F Ds v l) : RowsD K H F Ds (xs ++ [v]) (L ++ [l]) := RowsD.app h (.cons g .nil)
/-- pairs of a lead and a row -/
def PairsD (K : PySem.W.Frag) (H : Hp) {f : Int} (F : Fd f) (Ds : List Addr) (xs : List V) (A : List (Ll F.F)) : Prop := Paired (fun v (a : Ll F.F) => ∃ t rv, v = .ref t ∧ SqT K H t [.int (a.1 : Nat), rv] ∧ RowD K H F Ds rv a.2) xs A
theorem PairsD.go (hD : LstAt H Ds) (k : KeepL Ds H H') : ∀ {xs : List V} {A : List (Ll F.F)}, PairsD K H F Ds xs A → PairsD K H' F Ds xs A
  | _, _, .nil => .nil
  | _, _, .cons ⟨t, rv, e, h1, h2⟩ r => .cons ⟨t, rv, e, SqT.k1 h1 hD k, h2.go k⟩ (PairsD.go hD k r)
theorem PairsD.more {D2 : Addr} (n : H D2 = none) : ∀ {xs : List V} {A : List (Ll F.F)}, PairsD K H F Ds xs A → PairsD K H F (D2 :: Ds) xs A
  | _, _, .nil => .nil
  | _, _, .cons ⟨t, rv, e, h1, h2⟩ r => .cons ⟨t, rv, e, h1, h2.more n⟩ (PairsD.more n r)
theorem PairsD.less {Ds' : List Addr} (s : ∀ b ∈ Ds', b ∈ Ds) : ∀ {xs : List V} {A : List (Ll F.F)}, PairsD K H F Ds xs A → PairsD K H F Ds' xs A
  | _, _, .nil => .nil
  | _, _, .cons ⟨t, rv, e, h1, h2⟩ r => .cons ⟨t, rv, e, h1, h2.less s⟩ (PairsD.less s r)
theorem PairsD.snoc {t : Addr} {rv : V} {a : Ll F.F} (h1 : SqT K H t [.int (a.1 : Nat), rv]) (h2 : RowD K H F Ds rv a.2) : ∀ {xs : List V} {A : List (Ll F.F)}, PairsD K H F Ds xs A → PairsD K H F Ds (xs ++ [.ref t]) (A ++ [a])
  | _, _, .nil => .cons ⟨t, rv, rfl, h1, h2⟩ .nil
  | _, _, .cons g r => .cons g (PairsD.snoc h1 h2 r)
theorem PairsD.len {xs : List V} {A : List (Ll F.F)} (h : PairsD K H F Ds xs A) : xs.length = A.length := Paired.length h
end
theorem gName_go3 {i : Nat} {v : V} {σ : L2.St} {H : Hp} {Q : L2.St → Hp → Prop} (h : Q (σ.set i (some v)) H) : gName i v σ H Q := h
theorem nx_go3 {t : TS} {D : Ends} {rt : VK} {bk ct : L2.St → Hp → Prop} {σ : L2.St} {H : Hp} (h : t D σ H) : Ends.nx { nx := t D, rt := rt, bk := bk, ct := ct } σ H := h
theorem cutV_to (xs : List V) (i : Nat) : cutV xs none (some (i : Int)) = xs.take i := by
  unfold cutV
  rw [HT.sIx_nat, HT.sIx_none, List.drop_zero, Nat.sub_zero]
  rcases Nat.le_total i xs.length with h | h
  · rw [Nat.min_eq_left h]
  · rw [Nat.min_eq_right h, List.take_of_length_le (Nat.le_refl _), List.take_of_length_le h]
theorem cutV_from (xs : List V) (i : Nat) : cutV xs (some (i : Int)) none = xs.drop i := by
  unfold cutV
  rw [HT.sIx_nat, HT.sIx_none]
  rcases Nat.le_total i xs.length with h | h
  · rw [Nat.min_eq_left h, List.take_of_length_le (by rw [List.length_drop]; omega)]
  · rw [Nat.min_eq_right h, Nat.sub_self, List.take_zero, List.drop_of_length_le h]
theorem isN_sm6 {f : Int} {q : Pr} (hf : IsF f) (h0 : f ≠ 0) (h : IsN f q) : Sm 7 q := by
  have hb := hf.two h0
  rcases h with ⟨e, _⟩ | ⟨_, h1, h2, h3⟩
  · exact absurd e h0
  · refine ⟨?_, ?_⟩
    · show _ < 128
      omega
    · rw [h1]
      decide
theorem sz_neg {f : Int} {F : Fd f} (hf : IsF f) {n : Nat} (h7 : 7 ≤ n) {x : F.F} (h : Sm n (F.enc x)) : letI := F.fld; Sm n (F.enc (-x)) := by
  letI := F.fld
  by_cases h0 : f = 0
  · subst h0
    rw [F.neg]
    refine ⟨?_, h.2⟩
    show (-(F.enc x).1).natAbs < _
    rw [Int.natAbs_neg]
    exact h.1
  · exact (isN_sm6 hf h0 (F.num _)).mono h7
theorem sz_mul {f : Int} {F : Fd f} (hf : IsF f) {n m : Nat} (h7 : 7 ≤ n) {x y : F.F} (hx : Sm n (F.enc x)) (hy : Sm m (F.enc y)) : letI := F.fld; Sm (n + m) (F.enc (x * y)) := by
  letI := F.fld
  by_cases h0 : f = 0
  · subst h0
    rw [F.mul]
    have nx := (F.num x).den.1
    have ny := (F.num y).den.1
    have h := low0_le (t := (F.enc x).1 * (F.enc y).1) (b := (F.enc x).2 * (F.enc y).2) (Int.mul_ne_zero (by omega) (by omega))
    exact ⟨Nat.lt_of_le_of_lt h.1 (mul_small hx.1 hy.1), Nat.lt_of_le_of_lt h.2 (mul_small hx.2 hy.2)⟩
  · exact (isN_sm6 hf h0 (F.num _)).mono (by omega)
theorem sz_inv {f : Int} {F : Fd f} (hf : IsF f) {n : Nat} (h7 : 7 ≤ n) {x : F.F} (h : Sm n (F.enc x)) (hx : letI := F.fld; x ≠ 0) : letI := F.fld; Sm n (F.enc (x⁻¹)) := by
  letI := F.fld
  by_cases h0 : f = 0
  · subst h0
    rw [F.inv x hx]
    have h2 := low0_le (t := (F.enc x).2) (b := (F.enc x).1) (enc_top hx)
    exact ⟨Nat.lt_of_le_of_lt h2.1 h.2, Nat.lt_of_le_of_lt h2.2 h.1⟩
  · exact (isN_sm6 hf h0 (F.num _)).mono h7
def spStepped (K : PySem.W.Frag) : Sp := fun vs H Q _ => ∃ (f : Int) (r : Addr) (xs : List V) (w m : Nat) (F : Fd f) (L : List (List F.F)), vs = [.int f, .ref r, .int (w : Nat)] ∧ IsF f ∧ SqL K H r xs ∧ RowsV K H F xs L ∧ (∀ l ∈ L, l.length = w) ∧ w ≤ 500 ∧ L.length ≤ 500 ∧ 7 ≤ m ∧ m ≤ 3300 ∧ (letI := F.fld; Lv F m (L.map vec)) ∧
  ∀ H' D ys, Same H H' → H D = none → H' D = some (.lst ys) → (letI := F.fld; letI := F.dec; PairsD K H' F [D] ys (steps (List.range' 0 w) L)) → Q (.ref D) H'
theorem len_stepped {K vs H Q E} (h : spStepped K vs H Q E) : vs.length = (["field", "rows", "width"] : List Str).length := by
  obtain ⟨f, r, xs, w, m, F, L, rfl, _⟩ := h
  rfl

open Lin
/-- a row that is a tuple -/
def RowT (K : PySem.W.Frag) (H : Hp) {f : Int} (F : Fd f) (v : V) (l : List F.F) : Prop := ∃ (a : Addr) (xs : List V), v = .ref a ∧ SqT K H a xs ∧ NumsV K H xs (l.map F.enc)
def PairsT (K : PySem.W.Frag) (H : Hp) {f : Int} (F : Fd f) (xs : List V) (A : List (Ll F.F)) : Prop := Paired (fun v (a : Ll F.F) => ∃ t rv, v = .ref t ∧ SqT K H t [.int (a.1 : Nat), rv] ∧ RowT K H F rv a.2) xs A
section
variable {K : PySem.W.Frag} {H H' : Hp} {f : Int} {F : Fd f} {Ds : List Addr} {v : V} {l : List F.F}
theorem RowT.k1 (h : RowT K H F v l) (hD : LstAt H Ds) (k : KeepL Ds H H') : RowT K H' F v l := by
  obtain ⟨a, xs, h1, h2, h3⟩ := h
  exact ⟨a, xs, h1, SqT.k1 h2 hD k, NumsV.map (fun v q h => h.k1 hD k) h3⟩
theorem RowT.row (h : RowT K H F v l) : RowV K H F v l := by
  obtain ⟨a, xs, h1, h2, h3⟩ := h
  exact ⟨true, a, xs, h1, h2, h3⟩
theorem PairsT.k1 (hD : LstAt H Ds) (k : KeepL Ds H H') : ∀ {xs : List V} {A : List (Ll F.F)}, PairsT K H F xs A → PairsT K H' F xs A
  | _, _, .nil => .nil
  | _, _, .cons ⟨t, rv, e, h1, h2⟩ r => .cons ⟨t, rv, e, SqT.k1 h1 hD k, h2.k1 hD k⟩ (PairsT.k1 hD k r)
theorem PairsT.same (s : Same H H') {xs : List V} {A : List (Ll F.F)} (h : PairsT K H F xs A) : PairsT K H' F xs A := PairsT.k1 (Ds := []) (fun b hb => by cases hb) (Same.k1 s) h
theorem PairsT.snoc {t : Addr} {rv : V} {a : Ll F.F} (h1 : SqT K H t [.int (a.1 : Nat), rv]) (h2 : RowT K H F rv a.2) : ∀ {xs : List V} {A : List (Ll F.F)}, PairsT K H F xs A → PairsT K H F (xs ++ [.ref t]) (A ++ [a])
  | _, _, .nil => .cons ⟨t, rv, rfl, h1, h2⟩ .nil
  | _, _, .cons g r => .cons g (PairsT.snoc h1 h2 r)
theorem PairsT.len {xs : List V} {A : List (Ll F.F)} (h : PairsT K H F xs A) : xs.length = A.length := Paired.length h
theorem PairsT.rev {xs : List V} {A : List (Ll F.F)} (h : PairsT K H F xs A) : PairsT K H F xs.reverse A.reverse := by
  induction h with
  | nil => exact .nil
  | cons g _ ih =>
    obtain ⟨t, rv, rfl, h1, h2⟩ := g
    rw [List.reverse_cons, List.reverse_cons]
    exact PairsT.snoc h1 h2 ih
theorem PairsT.pick : ∀ {xs : List V} {A : List (Ll F.F)} {i : Nat} {x : V}, PairsT K H F xs A → xs[i]? = some x → ∃ a t rv, A[i]? = some a ∧ x = .ref t ∧ SqT K H t [.int (a.1 : Nat), rv] ∧ RowT K H F rv a.2
  | _, _, i, x, .nil, e => by simp at e
  | _, _, 0, x, .cons h t, e => by
    have e := Option.some.inj ((List.getElem?_cons_zero ..).symm.trans e)
    subst e
    obtain ⟨t, rv, h1, h2, h3⟩ := h
    exact ⟨_, t, rv, rfl, h1, h2, h3⟩
  | _, _, i + 1, x, .cons h t, e => by
    obtain ⟨a, t, rv, h1, h2⟩ := PairsT.pick (i := i) (x := x) t (by simpa using e)
    exact ⟨a, t, rv, by simpa using h1, h2⟩
theorem PairsD.pick : ∀ {xs : List V} {A : List (Ll F.F)} {i : Nat} {x : V}, PairsD K H F Ds xs A → xs[i]? = some x → ∃ a t rv, A[i]? = some a ∧ x = .ref t ∧ SqT K H t [.int (a.1 : Nat), rv] ∧ RowD K H F Ds rv a.2
  | _, _, i, x, .nil, e => by simp at e
  | _, _, 0, x, .cons h t, e => by
    have e := Option.some.inj ((List.getElem?_cons_zero ..).symm.trans e)
    subst e
    obtain ⟨t, rv, h1, h2, h3⟩ := h
    exact ⟨_, t, rv, rfl, h1, h2, h3⟩
  | _, _, i + 1, x, .cons h t, e => by
    obtain ⟨a, t, rv, h1, h2⟩ := PairsD.pick (i := i) (x := x) t (by simpa using e)
    exact ⟨a, t, rv, by simpa using h1, h2⟩
end
theorem RowT.same {K : PySem.W.Frag} {H H' : Hp} {f : Int} {F : Fd f} {v : V} {l : List F.F} (h : RowT K H F v l) (s : Same H H') : RowT K H' F v l := h.k1 (Ds := []) (fun b hb => by cases hb) (Same.k1 s)
theorem RowT.pick {K : PySem.W.Frag} {H : Hp} {f : Int} {F : Fd f} {v : V} {l : List F.F} {i : Nat} (h : RowT K H F v l) (hi : i < l.length) : letI := F.fld; ∃ (a : Addr) (xs : List V) (x : V), v = .ref a ∧ SqT K H a xs ∧ xs[i]? = some x ∧ NumV K H x (F.enc (vec l i)) := by
  letI := F.fld
  obtain ⟨a, xs, rfl, h1, h2⟩ := h
  obtain ⟨x, h3, h4⟩ := h2.pick hi
  exact ⟨a, xs, x, rfl, h1, h3, h4⟩
theorem RedU.dropL {F : Type} [Lean.Grind.Field F] {A : List (Ll F)} (R : RedU (vecs A)) (k : Nat) : RedU (vecs (A.drop k)) := by
  have m : ∀ {x : Lr F}, x ∈ vecs (A.drop k) → x ∈ vecs A := fun h => by
    obtain ⟨y, hy, rfl⟩ := List.mem_map.mp h
    exact List.mem_map_of_mem (List.mem_of_mem_drop hy)
  refine ⟨?_, fun a ha => R.one a (m ha), fun a ha => R.ahead a (m ha), fun a ha b hb => R.alone a (m ha) b (m hb)⟩
  have h := R.dist
  rw [List.pairwise_map] at h ⊢
  exact h.sublist (List.drop_sublist k A)
theorem Ech.suf {F : Type} [Lean.Grind.Field F] {A B : List (Ll F)} (E : Ech (vecs (A ++ B))) : Ech (vecs B) := by
  have m : ∀ {x : Lr F}, x ∈ vecs B → x ∈ vecs (A ++ B) := fun h => by
    obtain ⟨y, hy, rfl⟩ := List.mem_map.mp h
    exact List.mem_map_of_mem (List.mem_append_right _ hy)
  have h := E.up
  rw [List.pairwise_map] at h
  refine ⟨?_, fun a ha => E.one a (m ha), fun a ha => E.ahead a (m ha)⟩
  rw [List.pairwise_map]
  exact (List.pairwise_append.mp h).2.1
theorem drop_back {α : Type} {S : List α} {i : Nat} {d : α} (hi : i < S.length) (h : S[S.length - 1 - i]? = some d) : S.drop (S.length - (i + 1)) = d :: S.drop (S.length - i) := by
  have h1 : S.length - (i + 1) < S.length := by omega
  have e : S.length - 1 - i = S.length - (i + 1) := by omega
  rw [e] at h
  have h2 : S[S.length - (i + 1)] = d := (List.getElem?_eq_some_iff.mp h).2
  rw [List.drop_eq_getElem_cons h1, h2]
  congr 1
  congr 1
  omega
def spLeads (K : PySem.W.Frag) : Sp := fun vs H Q _ => ∃ (f : Int) (r : Addr) (xs : List V) (w m s c : Nat) (F : Fd f) (L : List (List F.F)), vs = [.int f, .ref r, .int (w : Nat)] ∧ IsF f ∧ SqL K H r xs ∧ RowsV K H F xs L ∧ (∀ l ∈ L, l.length = w) ∧ w ≤ 500 ∧ L.length ≤ 60 ∧ 7 ≤ m ∧ m ≤ 3300 ∧
  (letI := F.fld; OrgL F [] [] (L.map vec) s) ∧ fact L.length < 2 ^ c ∧ s + c ≤ m ∧
  ∀ H' D ys, Same H H' → H D = none → H' D = some (.lst ys) → (letI := F.fld; letI := F.dec; PairsT K H' F ys (redL w L)) → Q (.ref D) H'
theorem len_with_leads {K vs H Q E} (h : spLeads K vs H Q E) : vs.length = (["field", "rows", "width"] : List Str).length := by
  obtain ⟨f, r, xs, w, m, s, c, F, L, rfl, _⟩ := h
  rfl
open Lin
def spChk : Sp := fun vs H Q _ => ∃ f : Int, vs = [.int f] ∧ IsF f ∧ Q .non H
theorem len_check_field {vs H Q E} (h : spChk vs H Q E) : vs.length = (["field"] : List Str).length := by
  obtain ⟨f, rfl, _⟩ := h
  rfl
theorem d_check_field {P : Program} {w : World} {K : PySem.W.Frag} {mg : Str → Option Value} {base : Heap} (R : Raw K mg "check_field" s_check_field) (D_is_field : Def P w K mg base "is_field" 1 ["field"] (spIsF)) : Def P w K mg base "check_field" 2 ["field"] (spChk) := by
  obtain ⟨f, fd, F, m⟩ := R
  obtain ⟨f_is_field, fd_is_field, G_is_field, m_is_field, k_is_field, b_is_field⟩ := D_is_field
  refine ⟨f, fd, F.ok sc_check_field (fun vs H Q E h => ?_) (fun cdv A outer s H vs Q E hr h => ?_), m, F.kp, F.binds (ps := ["field"]) fun _ _ _ _ _ _ us hl => match us, hl with | [_], _ => rfl⟩
  · exact len_check_field h

  · obtain ⟨a, rfl, hf, q⟩ := h
    refine ⟨_, (pss_one (ps_if (pt_not (pt_val (pe_call G_is_field (hr.mono (by omega)) (by rfl) m_is_field k_is_field b_is_field .nil pass0 (pa_cons (pv 0) pa_nil)))) (pss_one ps_never) pss_nil)), ?_⟩
    refine ⟨_, rfl, a, rfl, _, rfl, ?_⟩
    rw [isFB_iff.mpr hf]
    exact iteF q
def spChkR (K : PySem.W.Frag) : Sp := fun vs H Q _ => ∃ (f : Int) (v : V) (F : Fd f) (l : List F.F), vs = [.int f, v] ∧ RowV K H F v l ∧ l.length ≤ 1000 ∧ ∀ H', Same H H' → Q .non H'
theorem len_check_numbers {K vs H Q E} (h : spChkR K vs H Q E) : vs.length = (["field", "numbers"] : List Str).length := by
  obtain ⟨f, p, F, l, rfl, _⟩ := h
  rfl
def spChkRs (K : PySem.W.Frag) : Sp := fun vs H Q _ => ∃ (f : Int) (r : Addr) (xs : List V) (F : Fd f) (L : List (List F.F)), vs = [.int f, .ref r] ∧ SqL K H r xs ∧ RowsV K H F xs L ∧ (∀ l ∈ L, l.length ≤ 1000) ∧ ∀ H', Same H H' → Q .non H'
theorem len_check_row_numbers {K vs H Q E} (h : spChkRs K vs H Q E) : vs.length = (["field", "rows"] : List Str).length := by
  obtain ⟨f, r, xs, F, L, rfl, _⟩ := h
  rfl
/-! shared -/
def RTs (K : PySem.W.Frag) (H : Hp) {f : Int} (F : Fd f) (xs : List V) (L : List (List F.F)) : Prop := Paired (fun v l => RowT K H F v l) xs L
section
variable {K : PySem.W.Frag} {H H' : Hp} {f : Int} {F : Fd f} {Ds : List Addr} {v : V} {l : List F.F}
theorem RTs.k1 (hD : LstAt H Ds) (k : KeepL Ds H H') : ∀ {xs : List V} {L : List (List F.F)}, RTs K H F xs L → RTs K H' F xs L
  | _, _, .nil => .nil
  | _, _, .cons g r => .cons (g.k1 hD k) (RTs.k1 hD k r)
theorem RTs.same (s : Same H H') {xs : List V} {L : List (List F.F)} (h : RTs K H F xs L) : RTs K H' F xs L := RTs.k1 (Ds := []) (fun b hb => by cases hb) (Same.k1 s) h
theorem RTs.snoc (h : RowT K H F v l) : ∀ {xs : List V} {L : List (List F.F)}, RTs K H F xs L → RTs K H F (xs ++ [v]) (L ++ [l])
  | _, _, .nil => .cons h .nil
  | _, _, .cons g r => .cons g (RTs.snoc h r)
theorem RTs.len {xs : List V} {L : List (List F.F)} (h : RTs K H F xs L) : xs.length = L.length := Paired.length h
theorem RTs.pick : ∀ {xs : List V} {L : List (List F.F)} {i : Nat} {m : List F.F}, RTs K H F xs L → L[i]? = some m → ∃ x, xs[i]? = some x ∧ RowT K H F x m
  | _, _, i, x, .nil, e => by simp at e
  | _, _, 0, x, .cons h t, e => by
    have e := Option.some.inj ((List.getElem?_cons_zero ..).symm.trans e)
    subst e
    exact ⟨_, rfl, h⟩
  | _, _, i + 1, x, .cons h t, e => by
    obtain ⟨u, h1, h2⟩ := RTs.pick (i := i) (m := x) t (by simpa using e)
    exact ⟨u, by simpa using h1, h2⟩
theorem RTs.pickV : ∀ {xs : List V} {L : List (List F.F)} {i : Nat} {x : V}, RTs K H F xs L → xs[i]? = some x → ∃ m, L[i]? = some m ∧ RowT K H F x m
  | _, _, i, x, .nil, e => by simp at e
  | _, _, 0, x, .cons h t, e => by
    have e := Option.some.inj ((List.getElem?_cons_zero ..).symm.trans e)
    subst e
    exact ⟨_, rfl, h⟩
  | _, _, i + 1, x, .cons h t, e => by
    obtain ⟨u, h1, h2⟩ := RTs.pickV (i := i) (x := x) t (by simpa using e)
    exact ⟨u, by simpa using h1, h2⟩
theorem RTs.set (h : RowT K H F v l) : ∀ {xs : List V} {L : List (List F.F)} (i : Nat), RTs K H F xs L → RTs K H F (xs.set i v) (L.set i l)
  | _, _, _, .nil => .nil
  | _, _, 0, .cons _ r => .cons h r
  | _, _, i + 1, .cons g r => .cons g (RTs.set h i r)
theorem RTs.rows : ∀ {xs : List V} {L : List (List F.F)}, RTs K H F xs L → RowsV K H F xs L
  | _, _, .nil => .nil
  | _, _, .cons g r => .cons g.row (RTs.rows r)
end
theorem inV_leads {α : Type} {w : Nat} : ∀ A : List (Nat × α), inV (.int (w : Nat)) (A.map fun d => V.int (d.1 : Nat)) = A.any fun d => d.1 == w
  | [] => rfl
  | d :: A => by
    have ih := inV_leads (w := w) A
    unfold inV at ih ⊢
    rw [List.map_cons, List.any_cons, List.any_cons, ih]
    congr 1
    show ((d.1 : Int) == (w : Int)) = (d.1 == w)
    by_cases h : d.1 = w
    · rw [h]
      simp
    · rw [beq_false_of_ne h, beq_false_of_ne (by omega)]
theorem flat_leads {α : Type} : ∀ A : List (Nat × α), (A.map fun d => V.int (d.1 : Nat)).all flatV = true
  | [] => rfl
  | d :: A => by
    rw [List.map_cons, List.all_cons, flat_leads A]
    rfl
theorem NumsV.reps {K : PySem.W.Frag} {H : Hp} {v : V} {q : Pr} (h : NumV K H v q) : ∀ n : Nat, NumsV K H (List.replicate n v) (List.replicate n q)
  | 0 => .nil
  | n + 1 => .cons h (NumsV.reps h n)
theorem NumsV.set {K : PySem.W.Frag} {H : Hp} {v : V} {q : Pr} (h : NumV K H v q) : ∀ {vs : List V} {qs : List Pr} (i : Nat), NumsV K H vs qs → NumsV K H (vs.set i v) (qs.set i q)
  | _, _, _, .nil => .nil
  | _, _, 0, .cons _ r => .cons h r
  | _, _, i + 1, .cons g r => .cons g (NumsV.set h i r)
theorem flat_reps {α : Type} (x : α) : ∀ n : Nat, (List.replicate n [x]).flatten = List.replicate n x
  | 0 => rfl
  | n + 1 => by
    rw [List.replicate_succ, List.flatten_cons, flat_reps x n]
    rfl

/-! ## the law's draws -/
/-- the box of draws at its place: the cells' copy at l, how many are read, what is left of a great one, the seed, the count -/
def BoxAt (H : Hp) (box l : Addr) : Prop := ∃ (ns : List Int) (i : Nat) (x s c : Int), H box = some (.lst [.ref l, .int i, .int x, .int s, .int c]) ∧ H l = some (.lst (ns.map V.int)) ∧ l ≠ box ∧ 0 ≤ s ∧ s < 2147483647
def Keep (box : Addr) (H H' : Hp) : Prop := ∀ b o, b ≠ box → H b = some o → H' b = some o
structure Stp (box l : Addr) (H H' : Hp) : Prop where
  keep : Keep box H H'
  box : BoxAt H' box l
theorem Keep.refl (box : Addr) (H : Hp) : Keep box H H := fun _ _ _ h => h
theorem Keep.trans {box : Addr} {H H1 H2 : Hp} (a : Keep box H H1) (b : Keep box H1 H2) : Keep box H H2 := fun c o n h => b c o n (a c o n h)
theorem Keep.upd {box : Addr} {H H1 : Hp} {o : HO} (a : Keep box H H1) : Keep box H (upd H1 box o) := fun c u n h => by
  rw [upd_ne n]
  exact a c u n h
theorem Keep.of {box : Addr} {H H1 : Hp} (a : Same H H1) : Keep box H H1 := fun c u _ h => a c u h
theorem Stp.trans {box l : Addr} {H H1 H2 : Hp} (a : Stp box l H H1) (b : Stp box l H1 H2) : Stp box l H H2 := ⟨a.keep.trans b.keep, b.box⟩
theorem BoxAt.same {H H1 : Hp} {box l : Addr} (h : BoxAt H box l) (e : Same H H1) : BoxAt H1 box l := by
  obtain ⟨ns, i, x, s, c, h1, h2, h3⟩ := h
  exact ⟨ns, i, x, s, c, e _ _ h1, e _ _ h2, h3⟩
theorem Stp.same {H H1 H2 : Hp} {box l : Addr} (h : Stp box l H H1) (e : Same H1 H2) : Stp box l H H2 := ⟨h.keep.trans (Keep.of e), h.box.same e⟩
theorem Stp.refl {H : Hp} {box l : Addr} (h : BoxAt H box l) : Stp box l H H := ⟨Keep.refl _ _, h⟩
/-- a list that was made beside the box is written -/
theorem Stp.put {H H1 : Hp} {box l D : Addr} {o : HO} (h : Stp box l H H1) (hb : BoxAt H box l) (hD : H D = none) : Stp box l H (upd H1 D o) := by
  obtain ⟨k, ns, i, x, s, c, h1, h2, h3⟩ := h
  obtain ⟨_, _, _, _, _, g1, g2, _⟩ := hb
  refine ⟨fun b u n q => ?_, ns, i, x, s, c, ?_, ?_, h3⟩
  · rw [upd_ne (ne_of_none q hD)]
    exact k b u n q
  · rw [upd_ne (ne_of_none g1 hD)]
    exact h1
  · rw [upd_ne (ne_of_none g2 hD)]
    exact h2
theorem BoxAt.ne {H : Hp} {box l D : Addr} (hb : BoxAt H box l) (hD : H D = none) : D ≠ box := by
  obtain ⟨_, _, _, _, _, g1, _⟩ := hb
  exact (ne_of_none g1 hD).symm
/-- numbers stand through draws: a number is not the box -/
theorem NumV.keep {K : PySem.W.Frag} {H H' : Hp} {box l : Addr} {v : V} {q : Pr} (h : NumV K H v q) (hb : BoxAt H box l) (e : Keep box H H') : NumV K H' v q := by
  obtain ⟨p, h1, h2⟩ := h
  obtain ⟨ns, i, x, s, c, b1, _⟩ := hb
  refine ⟨p, h1, ?_⟩
  rcases h2 with (h | ⟨o, h⟩) | h
  · refine .inl (.inl (e _ _ (fun z => ?_) h))
    rw [z, b1] at h
    cases h
  · refine .inl (.inr ⟨o, e _ _ (fun z => ?_) h⟩)
    rw [z, b1] at h
    cases h
  · exact .inr h
theorem a50 (a b c d e : V) : atI [a, b, c, d, e] 0 = some a := rfl
theorem a51 (a b c d e : V) : atI [a, b, c, d, e] 1 = some b := rfl
theorem a52 (a b c d e : V) : atI [a, b, c, d, e] 2 = some c := rfl
theorem a53 (a b c d e : V) : atI [a, b, c, d, e] 3 = some d := rfl
theorem a54 (a b c d e : V) : atI [a, b, c, d, e] 4 = some e := rfl
theorem cpow {i j : Int} (h0 : 0 ≤ j) (h1 : j ≤ 1000000) (h2 : i.natAbs < 2 ^ 64) : CPow i j := ⟨h0, h1, h2⟩
def spDraw : Sp := fun vs H Q _ => ∃ (box l : Addr) (many : Int), vs = [.ref box, .int many] ∧ BoxAt H box l ∧ 0 < many ∧ many.natAbs.log2 < 9000 ∧ ∀ H' r, Stp box l H H' → 0 ≤ r → r < many → Q (.int r) H'
theorem len__law_draw {vs H Q E} (h : spDraw vs H Q E) : vs.length = (["_law_box", "_law_many"] : List Str).length := by
  obtain ⟨f, w, z, rfl, _⟩ := h
  rfl
theorem pos_of {j : Int} (h : 0 < j) : (fun (_ j : Int) => 0 < j) (0 : Int) j := h
theorem box_upd {H H1 : Hp} {box l : Addr} {ns : List Int} {i : Nat} {x s c : Int} (k : Keep box H H1) (b2 : H1 l = some (.lst (ns.map V.int))) (b3 : l ≠ box) (b4 : 0 ≤ s) (b5 : s < 2147483647)   : Stp box l H (upd H1 box (.lst [.ref l, .int i, .int x, .int s, .int c])) :=
  ⟨k.upd, ns, i, x, s, c, upd_same, by rw [upd_ne b3]; exact b2, b3, b4, b5⟩
theorem d__law_draw {P : Program} {w : World} {K : PySem.W.Frag} {mg : Str → Option Value} {base : Heap} (R : Raw K mg "_law_draw" s__law_draw) (B : Bn mg)  : Def P w K mg base "_law_draw" 1 ["_law_box", "_law_many"] (spDraw) := by
  obtain ⟨f, fd, F, m⟩ := R
  refine ⟨f, fd, F.ok sc__law_draw (fun vs H Q E h => ?_) (fun cdv A outer s H vs Q E hr h => ?_), m, F.kp, F.binds (ps := ["_law_box", "_law_many"]) fun _ _ _ _ _ _ us hl => match us, hl with | [_, _], _ => rfl⟩
  · exact len__law_draw h

  · obtain ⟨box, l, many, rfl, hbox, hm, hml, q⟩ := h
    refine ⟨_, (pss_cons (ps_if (PW.pt (pw_and (pt_cmpR op_lt (pe_ix ix_list (pv 0) pe_int (fun _ _ => rfl)) pe_int (nomark _)) (pw_and1 (pt_cmpR op_lt (pe_ix ix_list (pv 0) pe_int (fun _ _ => rfl)) (pe_callB call_len_seq (by rfl) B.len PySem.boot_len (pa_cons (pe_ix ix_list (pv 0) pe_int (fun _ _ => rfl)) pa_nil)) (nomark _))))) (pss_cons (ps_set (i := 2) sc__law_draw.nd rfl (Or.inl rfl) (pe_ix ix_list (pe_ix ix_list (pv 0) pe_int (fun _ _ => rfl)) (pe_ix ix_list (pv 0) pe_int (fun _ _ => rfl)) (fun _ _ => rfl))) (pss_cons (ps_asg (pe_op op_add (pe_ix ix_list (pv 0) pe_int (fun _ _ => rfl)) pe_int) (pg_sub (pv 0) pe_int set_list)) (pss_one (ps_if (pt_cmpR op_ge (pv 2) (pe_op op_pow pe_int pe_int) (nomark _)) (pss_one (ps_asg (pv 2) (pg_sub (pv 0) pe_int set_list))) (pss_one (ps_asg (pe_op op_mod (pe_op op_add (pe_ix ix_list (pv 0) pe_int (fun _ _ => rfl)) (pe_op op_mul (pe_op op_mod (pv 2) pe_int) pe_int)) pe_int) (pg_sub (pv 0) pe_int set_list))))))) pss_nil) (pss_cons (ps_if (pt_cmpR op_gt (pe_ix ix_list (pv 0) pe_int (fun _ _ => rfl)) pe_int (nomark _)) (pss_cons (ps_set (i := 3) sc__law_draw.nd rfl (Or.inl rfl) (pe_op op_mod (pe_ix ix_list (pv 0) pe_int (fun _ _ => rfl)) (pv 1))) (pss_cons (ps_asg (pe_op op_fdivA (pe_ix ix_list (pv 0) pe_int (fun _ _ => rfl)) (pv 1)) (pg_sub (pv 0) pe_int set_list)) (pss_one (ps_ret (pv 3))))) pss_nil) (pss_cons (ps_asg (pe_op op_add (pe_ix ix_list (pv 0) pe_int (fun _ _ => rfl)) pe_int) (pg_sub (pv 0) pe_int set_list)) (pss_cons (ps_set (i := 4) sc__law_draw.nd rfl (Or.inl rfl) (pe_op op_mod (pe_op op_add (pe_ix ix_list (pv 0) pe_int (fun _ _ => rfl)) (pe_op op_mul (pe_ix ix_list (pv 0) pe_int (fun _ _ => rfl)) pe_int)) pe_int)) (pss_cons (ps_asg (pe_op op_mod (pe_op op_add (pe_op op_add (pe_op op_mul (pe_op op_mod (pe_op op_mul (pv 4) (pv 4)) pe_int) (pe_op op_add (pe_op op_mod (pv 4) pe_int) pe_int)) (pe_op op_mul pe_int (pv 4))) pe_int) pe_int) (pg_sub (pv 0) pe_int set_list)) (pss_one (ps_ret (pe_op op_mod (pe_op op_add (pe_op op_fdiv (pe_ix ix_list (pv 0) pe_int (fun _ _ => rfl)) pe_int) (pe_op op_mul (pe_op op_mod (pe_ix ix_list (pv 0) pe_int (fun _ _ => rfl)) pe_int) pe_int)) (pv 1))))))))), ?_⟩
    refine tIfS_join (fun σ' H' => Stp box l H H' ∧ ∃ z, σ' = [some (.ref box), some (.int many), z, none, none]) ?_ (fun rest => ?_)
    · rintro σ1 H1 ⟨⟨k1, ns, i, x, s, c, b1, b2, b3, b4, b5⟩, z, rfl⟩
      have hb1 := SqL.of (K := K) b1
      refine ⟨_, rfl, box, _, _, _, rfl, rfl, hb1, a52 .., _, _, rfl, rfl, _, rfl, ite2 (fun e => ?_) (fun e => ?_)⟩
      · refine ⟨_, rfl, box, _, _, _, rfl, rfl, hb1, a52 .., _, rfl, _, _, rfl, rfl, hm, ?_⟩
        refine ⟨_, rfl, box, _, _, _, rfl, rfl, hb1, a52 .., _, rfl, _, _, rfl, rfl, ⟨by omega, hml⟩, _, rfl, box, _, _, _, rfl, rfl, b1, rfl, ?_⟩
        exact ⟨_, rfl, q _ _ (box_upd k1 b2 b3 b4 b5) (Int.emod_nonneg _ (by omega)) (Int.emod_lt_of_pos _ hm)⟩
      · refine ⟨_, rfl, box, _, _, _, rfl, rfl, hb1, a54 .., _, _, rfl, rfl, _, rfl, box, _, _, _, rfl, rfl, b1, rfl, ?_⟩
        have s2 := box_upd (i := i) (x := x) (c := c + 1) k1 b2 b3 b4 b5
        have e2 : (upd H1 box (.lst [.ref l, .int i, .int x, .int s, .int (c + 1)])) box = some (.lst [.ref l, .int i, .int x, .int s, .int (c + 1)]) := upd_same
        have e3 : (upd H1 box (.lst [.ref l, .int i, .int x, .int s, .int (c + 1)])) l = some (.lst (ns.map V.int)) := by rw [upd_ne b3]; exact b2
        have hb2 := SqL.of (K := K) e2
        refine ⟨_, rfl, box, _, _, _, rfl, rfl, hb2, a53 .., _, rfl, box, _, _, _, rfl, rfl, hb2, a54 .., _, _, rfl, rfl, .inr ⟨by decide, by decide⟩, _, _, rfl, rfl, _, _, rfl, rfl, (by decide : (0 : Int) < 2147483647), ?_⟩
        have hB0 : 0 ≤ (s + (c + 1) * 7919) % 2147483647 := Int.emod_nonneg _ (by decide)
        have hB1 : (s + (c + 1) * 7919) % 2147483647 < 2147483647 := Int.emod_lt_of_pos _ (by decide)
        revert hB0 hB1
        dsimp only
        generalize (s + (c + 1) * 7919) % 2147483647 = B
        intro hB0 hB1
        have hBB : B * B % 2147483629 < 2147483629 ∧ 0 ≤ B * B % 2147483629 := ⟨Int.emod_lt_of_pos _ (by decide), Int.emod_nonneg _ (by decide)⟩
        refine ⟨_, rfl, _, rfl, _, _, rfl, rfl, .inl ⟨by omega, by omega⟩, _, _, rfl, rfl, (by decide : (0 : Int) < 2147483629), _, rfl, _, _, rfl, rfl, (by decide : (0 : Int) < 65521), _, _, rfl, rfl, _, _, rfl, rfl, .inl ⟨by omega, by omega⟩, ?_⟩
        refine ⟨_, rfl, _, _, rfl, rfl, .inl ⟨by decide, by decide⟩, _, _, rfl, rfl, _, _, rfl, rfl, _, _, rfl, rfl, (by decide : (0 : Int) < 2147483647), ?_⟩
        refine ⟨_, rfl, box, _, _, _, rfl, rfl, e2, rfl, ?_⟩
        have hS0 : 0 ≤ (B * B % 2147483629 * (B % 65521 + 3) + 40692 * B + 1013) % 2147483647 := Int.emod_nonneg _ (by decide)
        have hS1 : (B * B % 2147483629 * (B % 65521 + 3) + 40692 * B + 1013) % 2147483647 < 2147483647 := Int.emod_lt_of_pos _ (by decide)
        revert hS0 hS1
        dsimp only
        generalize (B * B % 2147483629 * (B % 65521 + 3) + 40692 * B + 1013) % 2147483647 = S
        intro hS0 hS1
        have s3 := box_upd (i := i) (x := x) (c := c + 1) s2.keep e3 b3 hS0 hS1
        have e4 : (upd (upd H1 box (.lst [.ref l, .int i, .int x, .int s, .int (c + 1)])) box (.lst [.ref l, .int i, .int x, .int S, .int (c + 1)])) box = some (.lst [.ref l, .int i, .int x, .int S, .int (c + 1)]) := upd_same
        have hb3 := SqL.of (K := K) e4
        refine ⟨_, rfl, box, _, _, _, rfl, rfl, hb3, a53 .., _, _, rfl, rfl, ⟨by decide, by decide⟩, _, rfl, box, _, _, _, rfl, rfl, hb3, a53 .., _, _, rfl, rfl, (by decide : (0 : Int) < 8191), _, _, rfl, rfl, .inr ⟨by decide, by decide⟩, _, _, rfl, rfl, _, rfl, _, _, rfl, rfl, hm, ?_⟩
        exact q _ _ s3 (Int.emod_nonneg _ (by omega)) (Int.emod_lt_of_pos _ hm)
    · obtain ⟨ns, i, x, s, c, b1, b2, b3, b4, b5⟩ := id hbox
      have hb1 := SqL.of (K := K) b1
      have hL := SqL.of (K := K) b2
      have k1 := Keep.refl box H
      refine ⟨_, rfl, box, _, _, _, rfl, rfl, hb1, a52 .., _, _, rfl, rfl, _, rfl, ite2 (fun e => ?_) (fun e => ?_)⟩
      · refine ⟨_, rfl, box, _, _, _, rfl, rfl, hb1, a51 .., _, rfl, box, _, _, _, rfl, rfl, hb1, a50 .., l, _, rfl, .inl hL, _, _, rfl, rfl, _, rfl, ite2 (fun e => ?_) (fun e => ?_)⟩
        · have e := of_decide_eq_true e
          rw [List.length_map] at e
          have hi : i < ns.length := by omega
          have hget : (ns.map V.int)[i]? = some (.int ns[i]) := by
            rw [List.getElem?_map, List.getElem?_eq_getElem hi]
            rfl
          refine ⟨_, rfl, box, _, _, _, rfl, rfl, hb1, a50 .., _, rfl, box, _, _, _, rfl, rfl, hb1, a51 .., l, _, _, _, rfl, rfl, hL, atI_nat hget, ?_⟩
          refine ⟨_, rfl, box, _, _, _, rfl, rfl, hb1, a51 .., _, _, rfl, rfl, _, rfl, box, _, _, _, rfl, rfl, b1, rfl, ?_⟩
          have s2 := box_upd (i := i + 1) (x := x) (c := c) k1 b2 b3 b4 b5
          have e2 : (upd H box (.lst [.ref l, .int ((i + 1 : Nat) : Int), .int x, .int s, .int c])) box = some (.lst [.ref l, .int ((i + 1 : Nat) : Int), .int x, .int s, .int c]) := upd_same
          have e3 : (upd H box (.lst [.ref l, .int ((i + 1 : Nat) : Int), .int x, .int s, .int c])) l = some (.lst (ns.map V.int)) := by rw [upd_ne b3]; exact b2
          have hb2 := SqL.of (K := K) e2
          refine ⟨_, rfl, _, _, rfl, rfl, cpow (by decide) (by decide) (by decide), _, _, rfl, rfl, _, rfl, ite2 (fun e => ?_) (fun e => ?_)⟩
          · refine ⟨_, rfl, _, rfl, box, _, _, _, rfl, rfl, e2, rfl, ?_⟩
            exact rest _ _ ⟨box_upd s2.keep e3 b3 b4 b5, _, rfl⟩
          · refine ⟨_, rfl, box, _, _, _, rfl, rfl, hb2, a53 .., _, rfl, _, _, rfl, rfl, (by decide : (0 : Int) < 2147483629), _, _, rfl, rfl, .inr ⟨by decide, by decide⟩, _, _, rfl, rfl, _, _, rfl, rfl, (by decide : (0 : Int) < 2147483647), ?_⟩
            refine ⟨_, rfl, box, _, _, _, rfl, rfl, e2, rfl, ?_⟩
            exact rest _ _ ⟨box_upd s2.keep e3 b3 (Int.emod_nonneg _ (by decide)) (Int.emod_lt_of_pos _ (by decide)), _, rfl⟩
        · exact rest _ _ ⟨Stp.refl hbox, none, rfl⟩
      · exact iteF (rest _ _ ⟨Stp.refl hbox, none, rfl⟩)

/-! ## the law's helpers -/
theorem SqL.keep {K : PySem.W.Frag} {H H' : Hp} {box p : Addr} {xs : List V} (h : SqL K H p xs) (n : p ≠ box) (e : Keep box H H') : SqL K H' p xs := by
  rcases h with (h | ⟨o, h⟩) | h
  · exact .inl (.inl (e _ _ n h))
  · exact .inl (.inr ⟨o, e _ _ n h⟩)
  · exact .inr h
theorem cut_map (ns : List Int) (lo hi : Option Int) : ∃ ms : List Int, cutV (ns.map V.int) lo hi = ms.map V.int := by
  unfold cutV
  rw [← List.map_drop, ← List.map_take]
  exact ⟨_, rfl⟩
/-- _law_open: a new box -/
def spOpen (K : PySem.W.Frag) : Sp := fun vs H Q _ => ∃ (a : Addr) (ns : List Int), vs = [.ref a] ∧ SqL K H a (ns.map V.int) ∧ ∀ H' box l, Same H H' → BoxAt H' box l → Q (.ref box) H'
theorem len__law_open {K vs H Q E} (h : spOpen K vs H Q E) : vs.length = (["_law_script"] : List Str).length := by
  obtain ⟨f, w, rfl, _⟩ := h
  rfl
theorem d__law_open {P : Program} {w : World} {K : PySem.W.Frag} {mg : Str → Option Value} {base : Heap} (R : Raw K mg "_law_open" s__law_open) (B : Bn mg)  : Def P w K mg base "_law_open" 1 ["_law_script"] (spOpen K) := by
  obtain ⟨f, fd, F, m⟩ := R
  refine ⟨f, fd, F.ok sc__law_open (fun vs H Q E h => ?_) (fun cdv A outer s H vs Q E hr h => ?_), m, F.kp, F.binds (ps := ["_law_script"]) fun _ _ _ _ _ _ us hl => match us, hl with | [_], _ => rfl⟩
  · exact len__law_open h

  · obtain ⟨a, ns, rfl, hS, q⟩ := h
    refine ⟨_, (pss_cons (ps_set (i := 1) sc__law_open.nd rfl (Or.inl rfl) pe_int) (pss_cons (ps_for PassesOwn.never rfl (pi_list (pe_slice sl_list (pv 0) po_none (po_some pe_int))) (pg_name (i := 2) sc__law_open.nd rfl (Or.inl rfl)) (pss_one (ps_set (i := 1) sc__law_open.nd rfl (Or.inl rfl) (pe_op op_mod (pe_op op_add (pe_op op_add (pe_op op_mul (pv 1) pe_int) (pe_op op_mod (pv 2) pe_int)) pe_int) pe_int)))) (pss_one (ps_ret (pe_lst (pa_cons (pe_callTy call_list_of (by rfl) B.list (by decide +kernel) (pa_cons (pe_slice sl_list (pv 0) po_none (po_some pe_int)) pa_nil)) (pa_cons pe_int (pa_cons pe_int (pa_cons (pv 1) (pa_cons pe_int pa_nil)))))))))), ?_⟩
    refine ⟨_, rfl, 63, rfl, a, _, rfl, hS, fun p hp => ?_⟩
    obtain ⟨ms, hms⟩ := cut_map ns none (some 63)
    rw [hms]
    have s1 : Same H (upd H p (.lst (ms.map V.int))) := same_new hp
    refine ⟨p, rfl, ⟨_, SqL.of upd_same⟩, for_list (K := K) (a := p) (xs := ms.map V.int) (fun i σ H' => H' = upd H p (.lst (ms.map V.int)) ∧ ∃ (s : Int) (z : Option V), 0 ≤ s ∧ s < 2147483647 ∧ σ = [some (.ref a), some (.int s), z])
      ⟨rfl, 1009, none, by decide, by decide, rfl⟩ (fun i σ H' _ ⟨e, _⟩ => by rw [e]; exact SqL.of upd_same) ?_ ?_⟩
    · rintro i y σ H' hi ⟨rfl, s, z, s0, s1', rfl⟩
      obtain ⟨u, rfl⟩ : ∃ u, y = V.int u := by
        rw [List.getElem?_map] at hi
        cases e : ms[i]? with
        | none =>
          rw [e] at hi
          cases hi
        | some u =>
          rw [e] at hi
          exact ⟨u, (Option.some.inj hi).symm⟩
      refine ⟨_, rfl, _, _, rfl, rfl, .inr ⟨by decide, by decide⟩, _, rfl, _, _, rfl, rfl, (by decide : (0 : Int) < 2147483629), _, _, rfl, rfl, _, _, rfl, rfl, _, _, rfl, rfl, (by decide : (0 : Int) < 2147483647), ?_⟩
      exact ⟨rfl, _, _, Int.emod_nonneg _ (by decide), Int.emod_lt_of_pos _ (by decide), rfl⟩
    · rintro σ H' ⟨rfl, s, z, s0, s1', rfl⟩
      refine ⟨_, rfl, 63, rfl, a, _, rfl, s1.seq hS, fun p2 hp2 => ?_⟩
      rw [hms]
      refine ⟨p2, _, rfl, .inl (SqL.of upd_same), fun l hl => ?_⟩
      have s2 := s1.trans ((same_new hp2).trans (same_new (o := .lst (ms.map V.int)) hl))
      refine ⟨_, rfl, (by show 5 ≤ sizeLine; decide), fun b hb => ?_⟩
      have nlb : l ≠ b := ne_of_none upd_same hb
      refine q _ b l (s2.trans (same_new hb)) ⟨ms, 0, 0, s, 0, upd_same, ?_, nlb, s0, s1'⟩
      rw [upd_ne nlb, upd_same]
theorem at_mem {xs : List V} {r : Int} (h0 : 0 ≤ r) (h1 : r < (xs.length : Int)) : ∃ x, atI xs r = some x ∧ x ∈ xs := by
  obtain ⟨n, rfl⟩ : ∃ n : Nat, r = n := ⟨r.toNat, by omega⟩
  have hn : n < xs.length := by omega
  exact ⟨xs[n], atI_nat (List.getElem?_eq_getElem hn), List.getElem_mem hn⟩
/-- _law_any: some item of the list -/
def spAny (K : PySem.W.Frag) : Sp := fun vs H Q _ => ∃ (box l p : Addr) (xs : List V), vs = [.ref box, .ref p] ∧ BoxAt H box l ∧ SqL K H p xs ∧ p ≠ box ∧ xs ≠ [] ∧ xs.length ≤ 1000 ∧ ∀ H' x, Stp box l H H' → x ∈ xs → Q x H'
theorem len__law_any {K vs H Q E} (h : spAny K vs H Q E) : vs.length = (["_law_box", "_law_some"] : List Str).length := by
  obtain ⟨f, w, _, _, rfl, _⟩ := h
  rfl
theorem log_small {n : Int} (h0 : 0 < n) (h : n < 2 ^ 200) : n.natAbs.log2 < 9000 := by
  have : n.natAbs < 2 ^ 200 := by omega
  exact Nat.lt_of_lt_of_le (PySem.Flt.log2_lt_of (by decide) this) (by decide)
theorem d__law_any {P : Program} {w : World} {K : PySem.W.Frag} {mg : Str → Option Value} {base : Heap} (R : Raw K mg "_law_any" s__law_any) (B : Bn mg) (D__law_draw : Def P w K mg base "_law_draw" 1 ["_law_box", "_law_many"] (spDraw)) : Def P w K mg base "_law_any" 2 ["_law_box", "_law_some"] (spAny K) := by
  obtain ⟨f, fd, F, m⟩ := R
  obtain ⟨f__law_draw, fd__law_draw, G__law_draw, m__law_draw, k__law_draw, b__law_draw⟩ := D__law_draw
  refine ⟨f, fd, F.ok sc__law_any (fun vs H Q E h => ?_) (fun cdv A outer s H vs Q E hr h => ?_), m, F.kp, F.binds (ps := ["_law_box", "_law_some"]) fun _ _ _ _ _ _ us hl => match us, hl with | [_, _], _ => rfl⟩
  · exact len__law_any h

  · obtain ⟨box, l, p, xs, rfl, hb, hS, hn, hne, hl, q⟩ := h
    refine ⟨_, (pss_one (ps_ret (pe_ix ix_list (pv 1) (pe_call G__law_draw (hr.mono (by omega)) (by rfl) m__law_draw k__law_draw b__law_draw .nil pass0 (pa_cons (pv 0) (pa_cons (pe_callB call_len_seq (by rfl) B.len PySem.boot_len (pa_cons (pv 1) pa_nil)) pa_nil))) (fun _ _ => rfl)))), ?_⟩
    have hpos : 0 < xs.length := List.length_pos_iff.mpr hne
    refine ⟨_, rfl, _, rfl, _, rfl, p, _, rfl, .inl hS, box, l, _, rfl, hb, by omega, log_small (by omega) (by omega), fun H' r st h0 h1 => ?_⟩
    obtain ⟨x, hx, hm⟩ := at_mem h0 h1
    exact ⟨p, _, _, _, rfl, rfl, SqL.keep hS hn st.keep, hx, q _ _ st hm⟩
def primesI : List Int := [2, 3, 5, 7, 11, 13, 17, 19, 23, 29, 31, 37, 41, 43, 47, 53, 59, 61, 67, 71, 73, 79, 83, 89, 97]
def spPrimes : Sp := fun vs H Q _ => vs = [] ∧ ∀ p, H p = none → Q (.ref p) (upd H p (.lst (primesI.map V.int)))
theorem len__law_primes {vs H Q E} (h : spPrimes vs H Q E) : vs.length = ([] : List Str).length := by
  obtain ⟨rfl, _⟩ := h
  rfl
theorem d__law_primes {P : Program} {w : World} {K : PySem.W.Frag} {mg : Str → Option Value} {base : Heap} (R : Raw K mg "_law_primes" s__law_primes)  : Def P w K mg base "_law_primes" 1 [] (spPrimes) := by
  obtain ⟨f, fd, F, m⟩ := R
  refine ⟨f, fd, F.ok sc__law_primes (fun vs H Q E h => ?_) (fun cdv A outer s H vs Q E hr h => ?_), m, F.kp, F.binds (ps := []) fun _ _ _ _ _ _ us hl => match us, hl with | [], _ => rfl⟩
  · exact len__law_primes h

  · obtain ⟨rfl, q⟩ := h
    refine ⟨_, (pss_one (ps_ret (pe_lst (pa_cons pe_int (pa_cons pe_int (pa_cons pe_int (pa_cons pe_int (pa_cons pe_int (pa_cons pe_int (pa_cons pe_int (pa_cons pe_int (pa_cons pe_int (pa_cons pe_int (pa_cons pe_int (pa_cons pe_int (pa_cons pe_int (pa_cons pe_int (pa_cons pe_int (pa_cons pe_int (pa_cons pe_int (pa_cons pe_int (pa_cons pe_int (pa_cons pe_int (pa_cons pe_int (pa_cons pe_int (pa_cons pe_int (pa_cons pe_int (pa_cons pe_int pa_nil)))))))))))))))))))))))))))), ?_⟩
    exact ⟨(by show 25 ≤ sizeLine; decide), q⟩
theorem primesI_isF {f : Int} (h : V.int f ∈ primesI.map V.int) : IsF f := by
  obtain ⟨g, hg, e⟩ := List.mem_map.mp h
  have e := V.int.inj e
  subst e
  have key : ∀ x ∈ primesI, x.toNat ∈ primesN ∧ x = (x.toNat : Int) := by decide +kernel
  exact .inr ⟨_, (key _ hg).1, (key _ hg).2⟩
def spField : Sp := fun vs H Q _ => ∃ (box l : Addr), vs = [.ref box] ∧ BoxAt H box l ∧ ∀ H' f, Stp box l H H' → IsF f → Q (.int f) H'
theorem len__law_field {vs H Q E} (h : spField vs H Q E) : vs.length = (["_law_box"] : List Str).length := by
  obtain ⟨f, w, rfl, _⟩ := h
  rfl
theorem isF_prime {p : Nat} (h : p ∈ primesN) : IsF p := .inr ⟨p, h, rfl⟩
theorem d__law_field {P : Program} {w : World} {K : PySem.W.Frag} {mg : Str → Option Value} {base : Heap} (R : Raw K mg "_law_field" s__law_field) (D__law_draw : Def P w K mg base "_law_draw" 1 ["_law_box", "_law_many"] (spDraw)) (D__law_any : Def P w K mg base "_law_any" 2 ["_law_box", "_law_some"] (spAny K)) (D__law_primes : Def P w K mg base "_law_primes" 1 [] (spPrimes)) : Def P w K mg base "_law_field" 3 ["_law_box"] (spField) := by
  obtain ⟨f, fd, F, m⟩ := R
  obtain ⟨f__law_draw, fd__law_draw, G__law_draw, m__law_draw, k__law_draw, b__law_draw⟩ := D__law_draw
  obtain ⟨f__law_any, fd__law_any, G__law_any, m__law_any, k__law_any, b__law_any⟩ := D__law_any
  obtain ⟨f__law_primes, fd__law_primes, G__law_primes, m__law_primes, k__law_primes, b__law_primes⟩ := D__law_primes
  refine ⟨f, fd, F.ok sc__law_field (fun vs H Q E h => ?_) (fun cdv A outer s H vs Q E hr h => ?_), m, F.kp, F.binds (ps := ["_law_box"]) fun _ _ _ _ _ _ us hl => match us, hl with | [_], _ => rfl⟩
  · exact len__law_field h

  · obtain ⟨box, l, rfl, hb, q⟩ := h
    refine ⟨_, (pss_one (ps_ret (pe_ix ix_list (pe_lst (pa_cons pe_int (pa_cons pe_int (pa_cons pe_int (pa_cons pe_int (pa_cons pe_int (pa_cons (pe_call G__law_any (hr.mono (by omega)) (by rfl) m__law_any k__law_any b__law_any .nil pass0 (pa_cons (pv 0) (pa_cons (pe_call0 G__law_primes (hr.mono (by omega)) (by rfl) m__law_primes k__law_primes b__law_primes .nil pass0) pa_nil))) pa_nil))))))) (pe_call G__law_draw (hr.mono (by omega)) (by rfl) m__law_draw k__law_draw b__law_draw .nil pass0 (pa_cons (pv 0) (pa_cons pe_int pa_nil))) (fun _ _ => rfl)))), ?_⟩
    refine ⟨_, rfl, rfl, fun p hp => ?_⟩
    have s1 : Same H (upd H p (.lst (primesI.map V.int))) := same_new hp
    refine ⟨box, l, p, _, rfl, hb.same s1, SqL.of upd_same, hb.ne hp, by decide, by decide, fun H2 x st hx => ?_⟩
    refine ⟨(by show 6 ≤ sizeLine; decide), fun z hz => ?_⟩
    have s3 : Same H2 (upd H2 z (.lst [.int 0, .int 0, .int 2, .int 3, .int 5, x])) := same_new hz
    refine ⟨_, rfl, box, l, _, rfl, st.box.same s3, by decide, by decide +kernel, fun H4 r st4 h0 h1 => ?_⟩
    have hS : SqL K H4 z [.int 0, .int 0, .int 2, .int 3, .int 5, x] := SqL.keep (SqL.of upd_same) (st.box.ne hz) st4.keep
    have stt : Stp box l H H4 := ⟨((Keep.of s1).trans st.keep).trans ((Keep.of s3).trans st4.keep), st4.box⟩
    obtain ⟨f, rfl, hf⟩ : ∃ f, x = V.int f ∧ IsF f := by
      obtain ⟨g, hg, e⟩ := List.mem_map.mp hx
      subst e
      exact ⟨g, rfl, primesI_isF hx⟩
    have hr : r = 0 ∨ r = 1 ∨ r = 2 ∨ r = 3 ∨ r = 4 ∨ r = 5 := by omega
    rcases hr with rfl | rfl | rfl | rfl | rfl | rfl
    · exact ⟨z, _, _, _, rfl, rfl, hS, rfl, q _ _ stt (.inl rfl)⟩
    · exact ⟨z, _, _, _, rfl, rfl, hS, rfl, q _ _ stt (.inl rfl)⟩
    · exact ⟨z, _, _, _, rfl, rfl, hS, rfl, q _ _ stt (isF_prime (p := 2) (by decide))⟩
    · exact ⟨z, _, _, _, rfl, rfl, hS, rfl, q _ _ stt (isF_prime (p := 3) (by decide))⟩
    · exact ⟨z, _, _, _, rfl, rfl, hS, rfl, q _ _ stt (isF_prime (p := 5) (by decide))⟩
    · exact ⟨z, _, _, _, rfl, rfl, hS, rfl, q _ _ stt hf⟩
def spGcd : Sp := fun vs H Q _ => ∃ a b : Int, vs = [.int a, .int b] ∧ Q (.int ((Nat.gcd a.natAbs b.natAbs : Nat) : Int)) H
theorem len__law_gcd {vs H Q E} (h : spGcd vs H Q E) : vs.length = (["_law_one", "_law_other"] : List Str).length := by
  obtain ⟨f, w, rfl, _⟩ := h
  rfl
theorem abs_if (a : Int) : (if a < 0 then -a else a) = (a.natAbs : Int) := by
  split <;> omega
def gcdMu (σ : L2.St) : Nat := match σ with
  | [_, some (.int y)] => y.natAbs
  | _ => 0
theorem test_mono {r : R2} (hr : ∀ x y H Q Q', (∀ z H1, Q z H1 → Q' z H1) → r x y H Q → r x y H Q') (i : Nat) (c : V) : ∀ (σ : L2.St) (H : Hp) (Q Q' : Bool → Hp → Prop), (∀ b H1, Q b H1 → Q' b H1) → tTest (tOp r (tVar i) (tC c)) σ H Q → tTest (tOp r (tVar i) (tC c)) σ H Q' := by
  rintro σ H Q Q' h ⟨v, h1, h2⟩
  exact ⟨v, h1, hr _ _ _ _ _ (fun z H1 ⟨k, e, q⟩ => ⟨k, e, h _ _ q⟩) h2⟩
theorem rI0_mono {g : Int → Int → V} : ∀ x y H (Q Q' : VK), (∀ z H1, Q z H1 → Q' z H1) → rI0 g x y H Q → rI0 g x y H Q' := by
  rintro x y H Q Q' h ⟨i, j, e1, e2, q⟩
  exact ⟨i, j, e1, e2, h _ _ q⟩
theorem d__law_gcd {P : Program} {w : World} {K : PySem.W.Frag} {mg : Str → Option Value} {base : Heap} (R : Raw K mg "_law_gcd" s__law_gcd) (B : Bn mg)  : Def P w K mg base "_law_gcd" 1 ["_law_one", "_law_other"] (spGcd) := by
  obtain ⟨f, fd, F, m⟩ := R
  refine ⟨f, fd, F.ok sc__law_gcd (fun vs H Q E h => ?_) (fun cdv A outer s H vs Q E hr h => ?_), m, F.kp, F.binds (ps := ["_law_one", "_law_other"]) fun _ _ _ _ _ _ us hl => match us, hl with | [_, _], _ => rfl⟩
  · exact len__law_gcd h

  · obtain ⟨a, b, rfl, q⟩ := h
    refine ⟨_, (pss_cons (ps_par (i := 0) (j := 1) (by rfl) sc__law_gcd.nd rfl rfl (by decide) rfl rfl (pa_cons (pe_callB call_abs (by rfl) B.abs (by decide +kernel) (pa_cons (pv 0) pa_nil)) (pa_cons (pe_callB call_abs (by rfl) B.abs (by decide +kernel) (pa_cons (pv 1) pa_nil)) pa_nil)) (by rfl)) (pss_cons (ps_while PassesOwn.never (pt_cmpR op_gt (pv 1) pe_int (nomark _)) (pss_one (ps_par (i := 0) (j := 1) (by rfl) sc__law_gcd.nd rfl rfl (by decide) rfl rfl (pa_cons (pv 1) (pa_cons (pe_op op_mod (pv 0) (pv 1)) pa_nil)) (by rfl)))) (pss_one (ps_ret (pv 0))))), ?_⟩
    refine ⟨_, rfl, _, rfl, _, rfl, _, rfl, _, _, rfl, ?_⟩
    refine while_by (fun σ H' => H' = H ∧ ∃ x y : Nat, σ = [some (.int x), some (.int y)] ∧ Nat.gcd x y = Nat.gcd a.natAbs b.natAbs) (fun σ _ => gcdMu σ) ⟨rfl, a.natAbs, b.natAbs, ?_, rfl⟩ ?_ (test_mono rI0_mono 1 _)
    · rw [abs_if, abs_if]
      rfl
    · rintro σ H' ⟨rfl, x, y, rfl, hg⟩
      refine ⟨_, rfl, _, _, rfl, rfl, _, rfl, ite2 (fun e => ?_) (fun e => ?_)⟩
      · have e := of_decide_eq_true e
        refine ⟨_, rfl, _, rfl, _, rfl, _, _, rfl, rfl, e, _, _, rfl, ?_⟩
        refine ⟨⟨rfl, y, x % y, rfl, ?_⟩, ?_⟩
        · rw [← hg, Nat.gcd_comm y, ← Nat.gcd_rec, Nat.gcd_comm]
        · show (((x : Int) % (y : Int)).natAbs) < ((y : Int)).natAbs
          rw [← Int.natCast_emod, Int.natAbs_natCast, Int.natAbs_natCast]
          exact Nat.mod_lt _ (by omega)
      · have e : ¬ (0 : Int) < (y : Int) := fun z => e (decide_eq_true z)
        have y0 : y = 0 := by omega
        subst y0
        rw [Nat.gcd_zero_right] at hg
        refine ⟨_, rfl, ?_⟩
        rw [hg]
        exact q

/-! ## the law's numbers -/
theorem at_zero {x : V} {xs : List V} : atI (x :: xs) 0 = some x := atI_nat (j := 0) rfl
def filtN (f b : Int) (n : Nat) : List Nat := (List.range n).filter fun k => decide (b * (k : Int) % f = 1)
theorem filtN_succ (f b : Int) (n : Nat) : filtN f b (n + 1) = if b * (n : Int) % f = 1 then filtN f b n ++ [n] else filtN f b n := by
  unfold filtN
  rw [List.range_succ, List.filter_append]
  by_cases h : b * (n : Int) % f = 1
  · rw [if_pos h]
    simp [h]
  · rw [if_neg h]
    simp [h]
theorem ofI_ne {f : Int} (F : Fd f) {b : Int} (h : nouB f b = false) : letI := F.fld; F.ofI b ≠ 0 := by
  intro e
  have h2 := (F.ofI0 b).mp e
  by_cases h0 : f = 0
  · subst h0
    rw [if_pos rfl] at h2
    rw [nouB0, decide_eq_true h2] at h
    cases h
  · rw [if_neg h0] at h2
    rw [nouB1 h0, decide_eq_true h2] at h
    cases h
theorem num_first {f : Int} (hf : IsF f) (h0 : f ≠ 0) {b : Int} (hb : nouB f b = false) (t : Int) : ∃ (k : Nat) (r : List Nat), filtN f b f.toNat = k :: r ∧ (k : Int) < f ∧ low f t b = (t * (k : Int) % f, 1) := by
  obtain ⟨F⟩ := fd_ex hf
  letI := F.fld
  have hx : F.ofI b ≠ 0 := ofI_ne F hb
  have h2 := hf.two h0
  have key : ∀ k : Int, b * k % f = 1 → low f t b = (t * k % f, 1) := by
    intro k hk
    have e1 : F.ofI b * F.ofI k = 1 := by
      apply F.inj
      rw [← F.ofI_mul, F.encI, if_neg h0, hk, F.one]
    have e2 : (F.ofI b)⁻¹ = F.ofI k := by
      have h3 := Lean.Grind.Field.mul_inv_cancel hx
      grind
    rw [← F.low t b hx, e2, ← F.ofI_mul, F.encI, if_neg h0]
  have ex : ∃ k : Nat, k < f.toNat ∧ b * (k : Int) % f = 1 := by
    have hn := F.num ((F.ofI b)⁻¹)
    rcases hn with ⟨e, _⟩ | ⟨_, g2, g0, g1⟩
    · exact absurd e h0
    · refine ⟨(F.enc ((F.ofI b)⁻¹)).1.toNat, by omega, ?_⟩
      have e3 : (((F.enc ((F.ofI b)⁻¹)).1.toNat : Nat) : Int) = (F.enc ((F.ofI b)⁻¹)).1 := Int.toNat_of_nonneg g0
      have e4 : F.ofI ((F.enc ((F.ofI b)⁻¹)).1) = (F.ofI b)⁻¹ := by
        apply F.inj
        rw [F.encI, if_neg h0, Int.emod_eq_of_lt g0 g1, ← g2]
      have e5 : F.ofI (b * (F.enc ((F.ofI b)⁻¹)).1) = 1 := by
        rw [F.ofI_mul, e4]
        exact Lean.Grind.Field.mul_inv_cancel hx
      have e6 := congrArg F.enc e5
      rw [F.encI, if_neg h0, F.one] at e6
      rw [e3]
      exact congrArg Prod.fst e6
  cases hl : filtN f b f.toNat with
  | nil =>
    obtain ⟨k, hk, hk2⟩ := ex
    have hm : k ∈ filtN f b f.toNat := by
      unfold filtN
      rw [List.mem_filter]
      exact ⟨List.mem_range.mpr hk, decide_eq_true hk2⟩
    rw [hl] at hm
    cases hm
  | cons k r =>
    have hm : k ∈ filtN f b f.toNat := by
      rw [hl]
      exact List.mem_cons_self ..
    unfold filtN at hm
    rw [List.mem_filter] at hm
    have h3 := List.mem_range.mp hm.1
    exact ⟨k, r, rfl, by omega, key _ (of_decide_eq_true hm.2)⟩
def spNum (K : PySem.W.Frag) : Sp := fun vs H Q _ => ∃ f t b : Int, vs = [.int f, .int t, .int b] ∧ IsF f ∧ nouB f b = false ∧ (f = 0 → t.natAbs < 2 ^ 13500 ∧ b.natAbs < 2 ^ 13500) ∧ RetN K H Q (low f t b)
theorem len__law_num {K vs H Q E} (h : spNum K vs H Q E) : vs.length = (["_law_field_here", "_law_top", "_law_bottom"] : List Str).length := by
  obtain ⟨f, t, b, rfl, _⟩ := h
  rfl
theorem d__law_num {P : Program} {w : World} {K : PySem.W.Frag} {mg : Str → Option Value} {base : Heap} (R : Raw K mg "_law_num" s__law_num) (B : Bn mg) (D__law_gcd : Def P w K mg base "_law_gcd" 1 ["_law_one", "_law_other"] (spGcd)) : Def P w K mg base "_law_num" 2 ["_law_field_here", "_law_top", "_law_bottom"] (spNum K) := by
  obtain ⟨f, fd, F, m⟩ := R
  obtain ⟨f__law_gcd, fd__law_gcd, G__law_gcd, m__law_gcd, k__law_gcd, b__law_gcd⟩ := D__law_gcd
  refine ⟨f, fd, F.ok sc__law_num (fun vs H Q E h => ?_) (fun cdv A outer s H vs Q E hr h => ?_), m, F.kp, F.binds (ps := ["_law_field_here", "_law_top", "_law_bottom"]) fun _ _ _ _ _ _ us hl => match us, hl with | [_, _, _], _ => rfl⟩
  · exact len__law_num h

  · obtain ⟨a, t, b, rfl, hf, hn, hs, q⟩ := h
    refine ⟨_, (pss_cons (ps_if (pt_cmpR op_gt (pv 0) pe_int (nomark _)) (pss_one (ps_ret (pe_tup (pa_cons (pe_op op_mod (pe_op op_mul (pv 1) (pe_ix ix_list (pe_lc (own := [("_law_k", 3)]) (g := gName 3) rfl sc__law_num.nd (pi_range1 (by rfl) B.range (pa_cons (pv 0) pa_nil)) (blkOk_by (N := ["_law_field_here", "_law_top", "_law_bottom", "_law_k", "_law_part"]) (sc := defScope s__law_num) (by decide +kernel)) (fun _ _ _ _ _ => pg_name (i := 3) sc__law_num.nd rfl (Or.inl rfl)) (fun _ _ _ _ _ => pts_one (pt_cmpR op_eq (pe_op op_mod (pe_op op_mul (pv 2) (pv 3)) (pv 0)) pe_int (nomark _))) (fun _ _ _ _ _ => (pv 3))) pe_int (fun _ _ => rfl))) (pv 0)) (pa_cons pe_int pa_nil))))) pss_nil) (pss_cons (ps_set (i := 4) sc__law_num.nd rfl (Or.inl rfl) (pe_call G__law_gcd (hr.mono (by omega)) (by rfl) m__law_gcd k__law_gcd b__law_gcd .nil pass0 (pa_cons (pv 1) (pa_cons (pv 2) pa_nil)))) (pss_cons (ps_if (pt_cmpR op_lt (pv 2) pe_int (nomark _)) (pss_one (ps_set (i := 4) sc__law_num.nd rfl (Or.inl rfl) (pe_op op_sub pe_int (pv 4)))) pss_nil) (pss_one (ps_ret (pe_tup (pa_cons (pe_op op_fdivB (pv 1) (pv 4)) (pa_cons (pe_op op_fdivB (pv 2) (pv 4)) pa_nil)))))))), ?_⟩
    refine ⟨_, rfl, _, _, rfl, rfl, _, rfl, ite2 (fun e => ?_) (fun e => ?_)⟩
    · have e := of_decide_eq_true e
      have h0 : a ≠ 0 := by omega
      have h2 := hf.two h0
      obtain ⟨k0, r, hk, hk1, hlow⟩ := num_first hf h0 hn t
      refine ⟨_, rfl, _, rfl, a, rfl, by omega, by omega, fun D hD => ?_⟩
      refine lc_range (lo := 0) (n := a.toNat) (fun i H' => Same H H' ∧ H' D = some (.lst ((filtN a b i).map fun k : Nat => V.int (k : Int)))) ⟨same_new hD, upd_same⟩ ?_ ?_
      · rintro i H' hi ⟨s, hD'⟩
        have hsz : ((filtN a b i).map fun k : Nat => V.int (k : Int)).length < sizeLine := by
          rw [List.length_map]
          refine small1000 ?_
          unfold filtN
          have := List.length_filter_le (fun k : Nat => decide (b * (k : Int) % a = 1)) (List.range i)
          rw [List.length_range] at this
          omega
        refine ⟨rfl, _, rfl, _, rfl, _, _, rfl, rfl, .inr ⟨by omega, by omega⟩, _, rfl, _, _, rfl, rfl, (by show (0 : Int) < a; omega), rfl, _, rfl, ite2 (fun e => ?_) (fun e => ?_)⟩
        · have e := eqI e
          rw [Int.zero_add] at e
          refine ⟨_, rfl, _, hD', hsz, same_seqT_upd s hD hD', ?_⟩
          rw [upd_same, filtN_succ, if_pos e, List.map_append, Int.zero_add]
          rfl
        · have e := neI e
          rw [Int.zero_add] at e
          refine ⟨s, ?_⟩
          rw [hD', filtN_succ, if_neg e]
      · rintro H' ⟨s, hD'⟩
        rw [hk] at hD'
        refine ⟨D, _, 0, .int (k0 : Int), rfl, rfl, SqL.of hD', at_zero, t, (k0 : Int), rfl, rfl, .inr ⟨by omega, by omega⟩, _, rfl, _, _, rfl, rfl, (by show (0 : Int) < a; omega), (by show 2 ≤ sizeLine; decide), fun p hp => ?_⟩
        have q2 : RetN K H' Q (low a t b) := fun H2 v s2 hv => q H2 v (s.trans s2) hv
        exact q2.new hlow hp
    · have e : ¬ 0 < a := fun z => e (decide_eq_true z)
      have e0 : a = 0 := by
        have := hf.nn
        omega
      subst e0
      have hb : b ≠ 0 := by
        rw [nouB0] at hn
        exact of_decide_eq_false hn
      have hs := hs rfl
      have hg := gOf_ne (t := t) hb
      have hgl := gOf_le (t := t) hb
      have hq : low 0 t b = (t.fdiv (gOf t b), b.fdiv (gOf t b)) := by
        unfold low
        rw [if_neg (by simp)]
      have htt := divB hs.1 hg
      have hd := divB hs.2 hg
      refine ⟨_, rfl, _, rfl, t, b, rfl, ?_⟩
      refine ⟨_, rfl, _, _, rfl, rfl, _, rfl, ite2 (fun e => ?_) (fun e => ?_)⟩
      · have e := of_decide_eq_true e
        have eg : 0 - ((Nat.gcd t.natAbs b.natAbs : Nat) : Int) = gOf t b := by
          unfold gOf
          rw [if_pos e]
          omega
        refine ⟨_, rfl, _, _, rfl, rfl, ?_⟩
        dsimp only
        rw [eg]
        refine ⟨_, rfl, _, rfl, _, _, rfl, rfl, htt, _, rfl, _, rfl, _, _, rfl, rfl, hd, (by show 2 ≤ sizeLine; decide), fun p hp => ?_⟩
        exact q.new hq hp
      · have e := of_decide_eq_false (eq_false_of_ne_true e)
        have eg : ((Nat.gcd t.natAbs b.natAbs : Nat) : Int) = gOf t b := by
          unfold gOf
          rw [if_neg e]
        rw [eg]
        refine ⟨_, rfl, _, rfl, _, _, rfl, rfl, htt, _, rfl, _, rfl, _, _, rfl, rfl, hd, (by show 2 ≤ sizeLine; decide), fun p hp => ?_⟩
        exact q.new hq hp
/-- within the bounds of a web's numbers -/
def S99 (q : Pr) : Prop := q.1.natAbs ≤ 99 ∧ q.2.natAbs ≤ 99
theorem S99.sm {q : Pr} (h : S99 q) : Sm 7 q := ⟨Nat.lt_of_le_of_lt h.1 (by decide), Nat.lt_of_le_of_lt h.2 (by decide)⟩
/-- _law_number: a small number of the field -/
def spNumber (K : PySem.W.Frag) : Sp := fun vs H Q _ => ∃ (box l : Addr) (f : Int), vs = [.ref box, .int f] ∧ BoxAt H box l ∧ IsF f ∧ ∀ H' v q, Stp box l H H' → NumV K H' v q → IsN f q → S99 q → Q v H'
theorem len__law_number {K vs H Q E} (h : spNumber K vs H Q E) : vs.length = (["_law_box", "_law_field_here"] : List Str).length := by
  obtain ⟨f, w, z, rfl, _⟩ := h
  rfl
theorem NumV.box {K : PySem.W.Frag} {H H' : Hp} {box l p : Addr} {q : Pr} (h : H p = some (.tup [.int q.1, .int q.2])) (hb : BoxAt H box l) (e : Keep box H H') : NumV K H' (.ref p) q :=
  NumV.keep ⟨p, rfl, SqT.of h⟩ hb e
theorem six {r : Int} (h0 : 0 ≤ r) (h1 : r < 6) : r = 0 ∨ r = 1 ∨ r = 2 ∨ r = 3 ∨ r = 4 ∨ r = 5 := by omega
theorem isN_p {f a : Int} (h : f ≠ 0) (h0 : 0 ≤ a) (h1 : a < f) : IsN f (a, 1) := .inr ⟨h, rfl, h0, h1⟩
theorem sm_of {a b : Int} (ha : a.natAbs < 128) (hb : b.natAbs < 128) : Sm 7 (a, b) := ⟨ha, hb⟩
theorem isN_s99 {f : Int} {q : Pr} (hf : IsF f) (h0 : f ≠ 0) (h : IsN f q) : S99 q := by
  rcases h with ⟨h, _⟩ | ⟨_, h1, h2, h3⟩
  · exact absurd h h0
  · have := hf.two h0
    refine ⟨?_, ?_⟩
    · omega
    · omega
theorem isN_sm {f : Int} {q : Pr} (hf : IsF f) (h0 : f ≠ 0) (h : IsN f q) : Sm 7 q := by
  rcases h with ⟨h, _⟩ | ⟨_, h1, h2, h3⟩
  · exact absurd h h0
  · have := hf.two h0
    refine ⟨?_, ?_⟩
    · show _ < 128
      omega
    · show _ < 128
      omega
theorem d__law_number {P : Program} {w : World} {K : PySem.W.Frag} {mg : Str → Option Value} {base : Heap} (R : Raw K mg "_law_number" s__law_number) (D__law_draw : Def P w K mg base "_law_draw" 1 ["_law_box", "_law_many"] (spDraw)) (D__law_num : Def P w K mg base "_law_num" 2 ["_law_field_here", "_law_top", "_law_bottom"] (spNum K)) : Def P w K mg base "_law_number" 3 ["_law_box", "_law_field_here"] (spNumber K) := by
  obtain ⟨f, fd, F, m⟩ := R
  obtain ⟨f__law_draw, fd__law_draw, G__law_draw, m__law_draw, k__law_draw, b__law_draw⟩ := D__law_draw
  obtain ⟨f__law_num, fd__law_num, G__law_num, m__law_num, k__law_num, b__law_num⟩ := D__law_num
  refine ⟨f, fd, F.ok sc__law_number (fun vs H Q E h => ?_) (fun cdv A outer s H vs Q E hr h => ?_), m, F.kp, F.binds (ps := ["_law_box", "_law_field_here"]) fun _ _ _ _ _ _ us hl => match us, hl with | [_, _], _ => rfl⟩
  · exact len__law_number h

  · obtain ⟨box, l, a, rfl, hb, hf, q⟩ := h
    refine ⟨_, (pss_cons (ps_set (i := 2) sc__law_number.nd rfl (Or.inl rfl) (pe_call G__law_draw (hr.mono (by omega)) (by rfl) m__law_draw k__law_draw b__law_draw .nil pass0 (pa_cons (pv 0) (pa_cons pe_int pa_nil)))) (pss_cons (ps_if (pt_cmpR op_gt (pv 1) pe_int (nomark _)) (pss_one (ps_ret (pe_ix ix_list (pe_lst (pa_cons (pe_tup (pa_cons pe_int (pa_cons pe_int pa_nil))) (pa_cons (pe_tup (pa_cons pe_int (pa_cons pe_int pa_nil))) (pa_cons (pe_tup (pa_cons (pe_op op_sub (pv 1) pe_int) (pa_cons pe_int pa_nil))) (pa_cons (pe_tup (pa_cons (pe_call G__law_draw (hr.mono (by omega)) (by rfl) m__law_draw k__law_draw b__law_draw .nil pass0 (pa_cons (pv 0) (pa_cons (pv 1) pa_nil))) (pa_cons pe_int pa_nil))) (pa_cons (pe_tup (pa_cons pe_int (pa_cons pe_int pa_nil))) (pa_cons (pe_tup (pa_cons pe_int (pa_cons pe_int pa_nil))) pa_nil))))))) (pv 2) (fun _ _ => rfl)))) pss_nil) (pss_cons (ps_set (i := 3) sc__law_number.nd rfl (Or.inl rfl) (pe_ix ix_list (pe_lst (pa_cons pe_int (pa_cons pe_int (pa_cons (pe_un un_neg pe_int) (pa_cons (pe_op op_sub (pe_call G__law_draw (hr.mono (by omega)) (by rfl) m__law_draw k__law_draw b__law_draw .nil pass0 (pa_cons (pv 0) (pa_cons pe_int pa_nil))) pe_int) (pa_cons pe_int (pa_cons (pe_op op_sub (pe_call G__law_draw (hr.mono (by omega)) (by rfl) m__law_draw k__law_draw b__law_draw .nil pass0 (pa_cons (pv 0) (pa_cons pe_int pa_nil))) pe_int) pa_nil))))))) (pv 2) (fun _ _ => rfl))) (pss_cons (ps_set (i := 4) sc__law_number.nd rfl (Or.inl rfl) (pe_ix ix_list (pe_lst (pa_cons pe_int (pa_cons pe_int (pa_cons pe_int (pa_cons (pe_op op_add pe_int (pe_call G__law_draw (hr.mono (by omega)) (by rfl) m__law_draw k__law_draw b__law_draw .nil pass0 (pa_cons (pv 0) (pa_cons pe_int pa_nil)))) (pa_cons pe_int (pa_cons (pe_op op_add pe_int (pe_call G__law_draw (hr.mono (by omega)) (by rfl) m__law_draw k__law_draw b__law_draw .nil pass0 (pa_cons (pv 0) (pa_cons pe_int pa_nil)))) pa_nil))))))) (pv 2) (fun _ _ => rfl))) (pss_one (ps_ret (pe_call G__law_num (hr.mono (by omega)) (by rfl) m__law_num k__law_num b__law_num .nil pass0 (pa_cons pe_int (pa_cons (pv 3) (pa_cons (pv 4) pa_nil)))))))))), ?_⟩
    refine ⟨_, rfl, box, l, _, rfl, hb, by decide, by decide +kernel, fun H1 r st1 r0 r1 => ?_⟩
    refine ⟨_, rfl, _, _, rfl, rfl, _, rfl, ite2 (fun e => ?_) (fun e => ?_)⟩
    · have e := of_decide_eq_true e
      have h0 : a ≠ 0 := by omega
      have h2 := hf.two h0
      -- the six tuples
      refine ⟨(by show 2 ≤ sizeLine; decide), fun p0 n0 => ?_⟩
      refine ⟨(by show 2 ≤ sizeLine; decide), fun p1 n1 => ?_⟩
      refine ⟨_, rfl, _, _, rfl, rfl, (by show 2 ≤ sizeLine; decide), fun p2 n2 => ?_⟩
      have s0 := same_new (o := .tup [.int 0, .int 1]) n0
      have s1 := same_new (o := .tup [.int 1, .int 1]) n1
      have s2 := same_new (o := .tup [.int (a - 1), .int 1]) n2
      have st2 := ((st1.same s0).same s1).same s2
      refine ⟨_, rfl, _, rfl, box, l, _, rfl, st2.box, by omega, log_small (by omega) (by omega), fun H3 d st3 d0 d1 => ?_⟩
      refine ⟨(by show 2 ≤ sizeLine; decide), fun p3 n3 => ?_⟩
      refine ⟨(by show 2 ≤ sizeLine; decide), fun p4 n4 => ?_⟩
      refine ⟨(by show 2 ≤ sizeLine; decide), fun p5 n5 => ?_⟩
      refine ⟨(by show 6 ≤ sizeLine; decide), fun z nz => ?_⟩
      have s3 := same_new (o := .tup [.int d, .int 1]) n3
      have s4 := same_new (o := .tup [.int 0, .int 1]) n4
      have s5 := same_new (o := .tup [.int 1, .int 1]) n5
      have sz := same_new (o := .lst [.ref p0, .ref p1, .ref p2, .ref p3, .ref p4, .ref p5]) nz
      have stt := ((((st2.trans st3).same s3).same s4).same s5).same sz
      have k3 := st3.keep
      have e0 : NumV K H3 (.ref p0) (0, 1) := NumV.box (s2 _ _ (s1 _ _ upd_same)) st2.box k3
      have e1 : NumV K H3 (.ref p1) (1, 1) := NumV.box (s2 _ _ upd_same) st2.box k3
      have e2 : NumV K H3 (.ref p2) (a - 1, 1) := NumV.box (q := (a - 1, 1)) upd_same st2.box k3
      have fin : ∀ {v : V} {x y : Int}, NumV K _ v (x, y) → IsN a (x, y) → Q v _ := fun hv hN => q _ _ _ stt hv hN (isN_s99 hf h0 hN)
      rcases six r0 r1 with rfl | rfl | rfl | rfl | rfl | rfl
      · exact ⟨_, rfl, z, _, _, _, rfl, rfl, SqL.of upd_same, rfl, fin (((e0.same s3).same s4 |>.same s5).same sz) (isN_p h0 (by omega) (by omega))⟩
      · exact ⟨_, rfl, z, _, _, _, rfl, rfl, SqL.of upd_same, rfl, fin (((e1.same s3).same s4 |>.same s5).same sz) (isN_p h0 (by omega) (by omega))⟩
      · exact ⟨_, rfl, z, _, _, _, rfl, rfl, SqL.of upd_same, rfl, fin (((e2.same s3).same s4 |>.same s5).same sz) (isN_p h0 (by omega) (by omega))⟩
      · exact ⟨_, rfl, z, _, _, _, rfl, rfl, SqL.of upd_same, rfl, fin ((((NumV.new d 1).same s4).same s5).same sz) (isN_p h0 d0 d1)⟩
      · exact ⟨_, rfl, z, _, _, _, rfl, rfl, SqL.of upd_same, rfl, fin (((NumV.new 0 1).same s5).same sz) (isN_p h0 (by omega) (by omega))⟩
      · exact ⟨_, rfl, z, _, _, _, rfl, rfl, SqL.of upd_same, rfl, fin ((NumV.new 1 1).same sz) (isN_p h0 (by omega) (by omega))⟩
    · have e : ¬ 0 < a := fun z => e (decide_eq_true z)
      have e0 : a = 0 := by
        have := hf.nn
        omega
      subst e0
      -- top
      refine ⟨_, rfl, _, rfl, box, l, _, rfl, st1.box, by decide, by decide +kernel, fun H2 u st2 u0 u1 => ?_⟩
      refine ⟨_, _, rfl, rfl, _, rfl, box, l, _, rfl, st2.box, by decide, by decide +kernel, fun H3 w st3 w0 w1 => ?_⟩
      refine ⟨_, _, rfl, rfl, (by show 6 ≤ sizeLine; decide), fun z nz => ?_⟩
      have st3' := ((st1.trans st2).trans st3).same (same_new (o := .lst [.int 0, .int 1, .int (-1), .int (u - 3), .int 0, .int (w - 99)]) nz)
      have hT : ∃ t : Int, atI [V.int 0, .int 1, .int (-1), .int (u - 3), .int 0, .int (w - 99)] r = some (.int t) ∧ t.natAbs ≤ 99 := by
        rcases six r0 r1 with rfl | rfl | rfl | rfl | rfl | rfl
        · exact ⟨_, rfl, by decide⟩
        · exact ⟨_, rfl, by decide⟩
        · exact ⟨_, rfl, by decide⟩
        · exact ⟨_, rfl, by omega⟩
        · exact ⟨_, rfl, by decide⟩
        · exact ⟨_, rfl, by omega⟩
      obtain ⟨t, ht, htb⟩ := hT
      refine ⟨_, rfl, z, _, _, _, rfl, rfl, SqL.of upd_same, ht, ?_⟩
      -- bottom
      refine ⟨_, rfl, box, l, _, rfl, st3'.box, by decide, by decide +kernel, fun H4 u' st4 u0' u1' => ?_⟩
      refine ⟨_, _, rfl, rfl, _, rfl, box, l, _, rfl, st4.box, by decide, by decide +kernel, fun H5 w' st5 w0' w1' => ?_⟩
      refine ⟨_, _, rfl, rfl, (by show 6 ≤ sizeLine; decide), fun z' nz' => ?_⟩
      have st5' := ((st3'.trans st4).trans st5).same (same_new (o := .lst [.int 1, .int 1, .int 1, .int (1 + u'), .int 1, .int (1 + w')]) nz')
      have hB : ∃ b : Int, atI [V.int 1, .int 1, .int 1, .int (1 + u'), .int 1, .int (1 + w')] r = some (.int b) ∧ 0 < b ∧ b.natAbs ≤ 99 := by
        rcases six r0 r1 with rfl | rfl | rfl | rfl | rfl | rfl
        · exact ⟨_, rfl, by decide, by decide⟩
        · exact ⟨_, rfl, by decide, by decide⟩
        · exact ⟨_, rfl, by decide, by decide⟩
        · exact ⟨_, rfl, by omega, by omega⟩
        · exact ⟨_, rfl, by decide, by decide⟩
        · exact ⟨_, rfl, by omega, by omega⟩
      obtain ⟨b, hbt, hb0, hbb⟩ := hB
      refine ⟨_, rfl, z', _, _, _, rfl, rfl, SqL.of upd_same, hbt, ?_⟩
      have hbn : b ≠ 0 := by omega
      have hle := low0_le (t := t) hbn
      refine ⟨_, rfl, _, rfl, 0, t, b, rfl, hf, by rw [nouB0]; exact decide_eq_false hbn, fun _ => ⟨Nat.lt_of_le_of_lt htb (Nat.lt_trans (show 99 < 2 ^ 7 by decide) (Nat.pow_lt_pow_right (a := 2) (m := 7) (n := 13500) (by decide) (by decide))), Nat.lt_of_le_of_lt hbb (Nat.lt_trans (show 99 < 2 ^ 7 by decide) (Nat.pow_lt_pow_right (a := 2) (m := 7) (n := 13500) (by decide) (by decide)))⟩, fun H' v s hv => ?_⟩
      exact q _ _ _ (st5'.same s) hv (isN_low0 hbn) ⟨Nat.le_trans hle.1 htb, Nat.le_trans hle.2 hbb⟩

theorem d__law_plus {P : Program} {w : World} {K : PySem.W.Frag} {mg : Str → Option Value} {base : Heap} (R : Raw K mg "_law_plus" s__law_plus) (D__law_num : Def P w K mg base "_law_num" 2 ["_law_field_here", "_law_top", "_law_bottom"] (spNum K)) : Def P w K mg base "_law_plus" 3 ["_law_field_here", "_law_one", "_law_other"] (spTwo K addN) := by
  obtain ⟨f, fd, F, m⟩ := R
  obtain ⟨f__law_num, fd__law_num, G__law_num, m__law_num, k__law_num, b__law_num⟩ := D__law_num
  refine ⟨f, fd, F.ok sc__law_plus (fun vs H Q E h => ?_) (fun cdv A outer s H vs Q E hr h => ?_), m, F.kp, F.binds (ps := ["_law_field_here", "_law_one", "_law_other"]) fun _ _ _ _ _ _ us hl => match us, hl with | [_, _, _], _ => rfl⟩
  · exact len_two h

  · obtain ⟨a, x, y, p, r, rfl, hf, ⟨px, rfl, hx⟩, ⟨py, rfl, hy⟩, ⟨np, sp⟩, ⟨nr, sr⟩, q⟩ := h
    refine ⟨_, (pss_cons (ps_if (pt_cmpR op_gt (pv 0) pe_int (nomark _)) (pss_one (ps_ret (pe_tup (pa_cons (pe_op op_mod (pe_op op_add (pe_ix ix_tup (pv 1) pe_int (fun _ _ => rfl)) (pe_ix ix_tup (pv 2) pe_int (fun _ _ => rfl))) (pv 0)) (pa_cons pe_int pa_nil))))) pss_nil) (pss_one (ps_ret (pe_call G__law_num (hr.mono (by omega)) (by rfl) m__law_num k__law_num b__law_num .nil pass0 (pa_cons pe_int (pa_cons (pe_op op_add (pe_op op_mulW (pe_ix ix_tup (pv 1) pe_int (fun _ _ => rfl)) (pe_ix ix_tup (pv 2) pe_int (fun _ _ => rfl))) (pe_op op_mulW (pe_ix ix_tup (pv 2) pe_int (fun _ _ => rfl)) (pe_ix ix_tup (pv 1) pe_int (fun _ _ => rfl)))) (pa_cons (pe_op op_mulW (pe_ix ix_tup (pv 1) pe_int (fun _ _ => rfl)) (pe_ix ix_tup (pv 2) pe_int (fun _ _ => rfl))) pa_nil))))))), ?_⟩
    refine ⟨_, rfl, _, _, rfl, rfl, _, rfl, ite2 (fun e => ?_) (fun e => ?_)⟩
    · have e := of_decide_eq_true e
      refine ⟨_, rfl, px, _, _, _, rfl, rfl, hx, at0 _ _, _, rfl, py, _, _, _, rfl, rfl, hy, at0 _ _, _, _, rfl, rfl, _, rfl, _, _, rfl, rfl, e, (by show 2 ≤ sizeLine; decide), fun z hz => ?_⟩
      exact q.new (by unfold addN; rw [if_pos (by omega)]) hz
    · have e : ¬ 0 < a := fun z => e (decide_eq_true z)
      have e0 : a = 0 := by
        have := hf.nn
        omega
      subst e0
      have hp := np.den.1
      have hr' := nr.den.1
      refine ⟨_, rfl, px, _, _, _, rfl, rfl, hx, at0 _ _, _, rfl, py, _, _, _, rfl, rfl, hy, at1 _ _, _, _, rfl, rfl, wm sp.1 sr.2, ?_⟩
      refine ⟨_, rfl, py, _, _, _, rfl, rfl, hy, at0 _ _, _, rfl, px, _, _, _, rfl, rfl, hx, at1 _ _, _, _, rfl, rfl, wm sr.1 sp.2, _, _, rfl, rfl, ?_⟩
      refine ⟨_, rfl, px, _, _, _, rfl, rfl, hx, at1 _ _, _, rfl, py, _, _, _, rfl, rfl, hy, at1 _ _, _, _, rfl, rfl, wm sp.2 sr.2, ?_⟩
      have hm : p.2 * r.2 ≠ 0 := Int.mul_ne_zero (by omega) (by omega)
      refine ⟨0, _, _, rfl, hf, by rw [nouB0]; exact decide_eq_false hm, fun _ => ⟨big_sum sp.1 sr.2 sr.1 sp.2, big_mul sp.2 sr.2⟩, ?_⟩
      exact q
theorem d__law_times {P : Program} {w : World} {K : PySem.W.Frag} {mg : Str → Option Value} {base : Heap} (R : Raw K mg "_law_times" s__law_times) (D__law_num : Def P w K mg base "_law_num" 2 ["_law_field_here", "_law_top", "_law_bottom"] (spNum K)) : Def P w K mg base "_law_times" 3 ["_law_field_here", "_law_one", "_law_other"] (spTwo K mulN) := by
  obtain ⟨f, fd, F, m⟩ := R
  obtain ⟨f__law_num, fd__law_num, G__law_num, m__law_num, k__law_num, b__law_num⟩ := D__law_num
  refine ⟨f, fd, F.ok sc__law_times (fun vs H Q E h => ?_) (fun cdv A outer s H vs Q E hr h => ?_), m, F.kp, F.binds (ps := ["_law_field_here", "_law_one", "_law_other"]) fun _ _ _ _ _ _ us hl => match us, hl with | [_, _, _], _ => rfl⟩
  · exact len_two h

  · obtain ⟨a, x, y, p, r, rfl, hf, ⟨px, rfl, hx⟩, ⟨py, rfl, hy⟩, ⟨np, sp⟩, ⟨nr, sr⟩, q⟩ := h
    refine ⟨_, (pss_cons (ps_if (pt_cmpR op_gt (pv 0) pe_int (nomark _)) (pss_one (ps_ret (pe_tup (pa_cons (pe_op op_mod (pe_op op_mulW (pe_ix ix_tup (pv 1) pe_int (fun _ _ => rfl)) (pe_ix ix_tup (pv 2) pe_int (fun _ _ => rfl))) (pv 0)) (pa_cons pe_int pa_nil))))) pss_nil) (pss_one (ps_ret (pe_call G__law_num (hr.mono (by omega)) (by rfl) m__law_num k__law_num b__law_num .nil pass0 (pa_cons pe_int (pa_cons (pe_op op_mulW (pe_ix ix_tup (pv 1) pe_int (fun _ _ => rfl)) (pe_ix ix_tup (pv 2) pe_int (fun _ _ => rfl))) (pa_cons (pe_op op_mulW (pe_ix ix_tup (pv 1) pe_int (fun _ _ => rfl)) (pe_ix ix_tup (pv 2) pe_int (fun _ _ => rfl))) pa_nil))))))), ?_⟩
    refine ⟨_, rfl, _, _, rfl, rfl, _, rfl, ite2 (fun e => ?_) (fun e => ?_)⟩
    · have e := of_decide_eq_true e
      refine ⟨_, rfl, px, _, _, _, rfl, rfl, hx, at0 _ _, _, rfl, py, _, _, _, rfl, rfl, hy, at0 _ _, _, _, rfl, rfl, wm sp.1 sr.1, _, rfl, _, _, rfl, rfl, e, (by show 2 ≤ sizeLine; decide), fun z hz => ?_⟩
      exact q.new (by unfold mulN; rw [if_pos (by omega)]) hz
    · have e : ¬ 0 < a := fun z => e (decide_eq_true z)
      have e0 : a = 0 := by
        have := hf.nn
        omega
      subst e0
      have hp := np.den.1
      have hr' := nr.den.1
      refine ⟨_, rfl, px, _, _, _, rfl, rfl, hx, at0 _ _, _, rfl, py, _, _, _, rfl, rfl, hy, at0 _ _, _, _, rfl, rfl, wm sp.1 sr.1, ?_⟩
      refine ⟨_, rfl, px, _, _, _, rfl, rfl, hx, at1 _ _, _, rfl, py, _, _, _, rfl, rfl, hy, at1 _ _, _, _, rfl, rfl, wm sp.2 sr.2, ?_⟩
      have hm : p.2 * r.2 ≠ 0 := Int.mul_ne_zero (by omega) (by omega)
      refine ⟨0, _, _, rfl, hf, by rw [nouB0]; exact decide_eq_false hm, fun _ => ⟨big_mul sp.1 sr.1, big_mul sp.2 sr.2⟩, ?_⟩
      exact q
theorem len_oneL {K nz g vs H Q E} (h : spOne K nz g vs H Q E) : vs.length = (["_law_field_here", "_law_number_here"] : List Str).length := by
  obtain ⟨f, x, p, rfl, _⟩ := h
  rfl
theorem d__law_less {P : Program} {w : World} {K : PySem.W.Frag} {mg : Str → Option Value} {base : Heap} (R : Raw K mg "_law_less" s__law_less)  : Def P w K mg base "_law_less" 1 ["_law_field_here", "_law_number_here"] (spOne K false negN) := by
  obtain ⟨f, fd, F, m⟩ := R
  refine ⟨f, fd, F.ok sc__law_less (fun vs H Q E h => ?_) (fun cdv A outer s H vs Q E hr h => ?_), m, F.kp, F.binds (ps := ["_law_field_here", "_law_number_here"]) fun _ _ _ _ _ _ us hl => match us, hl with | [_, _], _ => rfl⟩
  · exact len_oneL h

  · obtain ⟨a, x, p, rfl, hf, ⟨px, rfl, hx⟩, ⟨np, sp⟩, _, q⟩ := h
    refine ⟨_, (pss_one (ps_ret (pe_ifExp (pt_cmpR op_gt (pv 0) pe_int (nomark _)) (pe_tup (pa_cons (pe_op op_mod (pe_op op_sub pe_int (pe_ix ix_tup (pv 1) pe_int (fun _ _ => rfl))) (pv 0)) (pa_cons pe_int pa_nil))) (pe_tup (pa_cons (pe_op op_sub pe_int (pe_ix ix_tup (pv 1) pe_int (fun _ _ => rfl))) (pa_cons (pe_ix ix_tup (pv 1) pe_int (fun _ _ => rfl)) pa_nil)))))), ?_⟩
    refine ⟨_, rfl, _, _, rfl, rfl, _, rfl, ite2 (fun e => ?_) (fun e => ?_)⟩
    · have e := of_decide_eq_true e
      refine ⟨_, rfl, px, _, _, _, rfl, rfl, hx, at0 _ _, _, _, rfl, rfl, _, rfl, _, _, rfl, rfl, e, (by show 2 ≤ sizeLine; decide), fun z hz => ?_⟩
      exact q.new (by unfold negN; rw [if_pos (by omega), Int.zero_sub]) hz
    · have e : ¬ 0 < a := fun z => e (decide_eq_true z)
      have e0 : a = 0 := by
        have := hf.nn
        omega
      subst e0
      refine ⟨_, rfl, px, _, _, _, rfl, rfl, hx, at0 _ _, _, _, rfl, rfl, _, rfl, px, _, _, _, rfl, rfl, hx, at1 _ _, (by show 2 ≤ sizeLine; decide), fun z hz => ?_⟩
      exact q.new (by unfold negN; rw [if_neg (by simp), Int.zero_sub]) hz
open Lin
/-! ## the law's own rows -/
def mulL {f : Int} (F : Fd f) (l : List F.F) (c : F.F) : List F.F := letI := F.fld; l.map fun x => x * c
def addL {f : Int} (F : Fd f) (l m : List F.F) : List F.F := letI := F.fld; List.zipWith (fun x y => x + y) l m
def spLScaled (K : PySem.W.Frag) : Sp := fun vs H Q _ => ∃ (f : Int) (row fac : V) (F : Fd f) (l : List F.F) (c : F.F), vs = [.int f, row, fac] ∧ IsF f ∧ RowT K H F row l ∧ NumV K H fac (F.enc c) ∧ l.length ≤ 1000 ∧ (∀ j, letI := F.fld; Sz6 F (vec l j)) ∧ Sz6 F c ∧ ∀ H' v, Same H H' → RowT K H' F v (mulL F l c) → Q v H'
theorem len__law_scaled {K vs H Q E} (h : spLScaled K vs H Q E) : vs.length = (["_law_field_here", "_law_row_here", "_law_factor"] : List Str).length := by
  obtain ⟨f, r, c, F, l, z, rfl, _⟩ := h
  rfl
theorem d__law_scaled {P : Program} {w : World} {K : PySem.W.Frag} {mg : Str → Option Value} {base : Heap} (R : Raw K mg "_law_scaled" s__law_scaled) (B : Bn mg) (D__law_times : Def P w K mg base "_law_times" 3 ["_law_field_here", "_law_one", "_law_other"] (spTwo K mulN)) : Def P w K mg base "_law_scaled" 4 ["_law_field_here", "_law_row_here", "_law_factor"] (spLScaled K) := by
  obtain ⟨f, fd, F, m⟩ := R
  obtain ⟨f__law_times, fd__law_times, G__law_times, m__law_times, k__law_times, b__law_times⟩ := D__law_times
  refine ⟨f, fd, F.ok sc__law_scaled (fun vs H Q E h => ?_) (fun cdv A outer s H vs Q E hr h => ?_), m, F.kp, F.binds (ps := ["_law_field_here", "_law_row_here", "_law_factor"]) fun _ _ _ _ _ _ us hl => match us, hl with | [_, _, _], _ => rfl⟩
  · exact len__law_scaled h

  · obtain ⟨a, row, fac, F, l, c, rfl, hf, hl, hc, l1, b0, b1, q⟩ := h
    letI := F.fld
    letI := F.dec
    refine ⟨_, (pss_one (ps_ret (pe_callTy call_tuple_of (by rfl) B.tuple (by decide +kernel) (pa_cons (pe_lc (own := [("_law_one", 3)]) (g := gName 3) (tt := tYes) rfl sc__law_scaled.nd (pi_tup (pv 1)) (blkOk_by (N := ["_law_field_here", "_law_row_here", "_law_factor", "_law_one"]) (sc := defScope s__law_scaled) (by decide +kernel)) (fun _ _ _ _ _ => pg_name (i := 3) sc__law_scaled.nd rfl (Or.inl rfl)) (fun _ _ _ _ _ => pts_nil) (fun _ _ _ _ _ => (pe_call G__law_times (hr.mono (by omega)) (by rfl) m__law_times k__law_times b__law_times .nil pass0 (pa_cons (pv 0) (pa_cons (pv 3) (pa_cons (pv 2) pa_nil)))))) pa_nil)))), ?_⟩
    obtain ⟨pa, xs, rfl, hx, hn⟩ := hl
    have lx := hn.len
    rw [List.length_map] at lx
    refine ⟨_, rfl, pa, rfl, ⟨_, hx⟩, fun D hD => lc_tup (K := K) (a := pa) (xs := xs) (fun i H' => Same H H' ∧ ∃ zs, H' D = some (.lst zs) ∧ NumsV K H' zs (((mulL F l c).take i).map F.enc)) ⟨same_new hD, [], upd_same, .nil⟩ (fun i H' _ ⟨s, _⟩ => Same.seqT s hx) ?_ ?_⟩
    · rintro i x H2 hi ⟨s2, zs, hz, nz⟩
      have hil := (List.getElem?_eq_some_iff.mp hi).1
      obtain ⟨x2, e3, n2⟩ := hn.pick (i := i) (by omega)
      cases hi.symm.trans e3
      refine ⟨rfl, tYes_of (iteT ⟨_, rfl, _, rfl, _, rfl, a, x, fac, F.enc (vec l i), F.enc c, rfl, hf, n2.same s2, hc.same s2, ⟨F.num _, b0 i⟩, ⟨F.num _, b1⟩, fun H5 u5 s5 hu5 => ?_⟩)⟩
      have hu5 : NumV K H5 u5 (F.enc (vec l i * c)) := by
        rw [F.mul]
        exact hu5
      have hz5 := s5 _ _ hz
      have lz := nz.len
      rw [List.length_map, List.length_take] at lz
      refine ⟨zs, hz5, small1000 (by omega), same_seqT_upd (s2.trans s5) hD hz5, zs ++ [u5], upd_same, ?_⟩
      have ei : (mulL F l c)[i]? = some (vec l i * c) := by
        unfold mulL
        rw [List.getElem?_map, vec_lt (by omega)]
        rfl
      rw [List.take_add_one, ei, List.map_append]
      exact NumsV.map (fun v q h => h.putL hz5) (NumsV.snoc (NumsV.same s5 nz) hu5)
    · rintro H2 ⟨s2, zs, hz, nz⟩
      have lm : (mulL F l c).length = l.length := List.length_map ..
      rw [List.take_of_length_le (by omega)] at nz
      exact ⟨D, zs, rfl, .inl ⟨SqL.of hz, fun p hp => q _ _ (s2.trans (same_new hp)) ⟨p, zs, rfl, SqT.of upd_same, NumsV.same (same_new hp) nz⟩⟩⟩
def spLAdded (K : PySem.W.Frag) : Sp := fun vs H Q _ => ∃ (f : Int) (row other : V) (F : Fd f) (l m : List F.F), vs = [.int f, row, other] ∧ IsF f ∧ RowT K H F row l ∧ RowT K H F other m ∧ l.length = m.length ∧ l.length ≤ 1000 ∧ (∀ j, letI := F.fld; Sz6 F (vec l j)) ∧ (∀ j, letI := F.fld; Sz6 F (vec m j)) ∧ ∀ H' v, Same H H' → RowT K H' F v (addL F l m) → Q v H'
theorem len__law_added {K vs H Q E} (h : spLAdded K vs H Q E) : vs.length = (["_law_field_here", "_law_row_here", "_law_other"] : List Str).length := by
  obtain ⟨f, r, c, F, l, z, rfl, _⟩ := h
  rfl
theorem d__law_added {P : Program} {w : World} {K : PySem.W.Frag} {mg : Str → Option Value} {base : Heap} (R : Raw K mg "_law_added" s__law_added) (B : Bn mg) (D__law_plus : Def P w K mg base "_law_plus" 3 ["_law_field_here", "_law_one", "_law_other"] (spTwo K addN)) : Def P w K mg base "_law_added" 4 ["_law_field_here", "_law_row_here", "_law_other"] (spLAdded K) := by
  obtain ⟨f, fd, F, m⟩ := R
  obtain ⟨f__law_plus, fd__law_plus, G__law_plus, m__law_plus, k__law_plus, b__law_plus⟩ := D__law_plus
  refine ⟨f, fd, F.ok sc__law_added (fun vs H Q E h => ?_) (fun cdv A outer s H vs Q E hr h => ?_), m, F.kp, F.binds (ps := ["_law_field_here", "_law_row_here", "_law_other"]) fun _ _ _ _ _ _ us hl => match us, hl with | [_, _, _], _ => rfl⟩
  · exact len__law_added h

  · obtain ⟨a, row, other, F, l, m, rfl, hf, hl, hm, len, l1, b0, b1, q⟩ := h
    letI := F.fld
    letI := F.dec
    refine ⟨_, (pss_one (ps_ret (pe_callTy call_tuple_of (by rfl) B.tuple (by decide +kernel) (pa_cons (pe_lc (own := [("_law_k", 3)]) (g := gName 3) (tt := tYes) rfl sc__law_added.nd (pi_range1 (by rfl) B.range (pa_cons (pe_callB call_len_seq (by rfl) B.len PySem.boot_len (pa_cons (pv 1) pa_nil)) pa_nil)) (blkOk_by (N := ["_law_field_here", "_law_row_here", "_law_other", "_law_k"]) (sc := defScope s__law_added) (by decide +kernel)) (fun _ _ _ _ _ => pg_name (i := 3) sc__law_added.nd rfl (Or.inl rfl)) (fun _ _ _ _ _ => pts_nil) (fun _ _ _ _ _ => (pe_call G__law_plus (hr.mono (by omega)) (by rfl) m__law_plus k__law_plus b__law_plus .nil pass0 (pa_cons (pv 0) (pa_cons (pe_ix (show IxR _ (rIxT K) from ix_tup) (pv 1) (pv 3) (fun _ _ => rfl)) (pa_cons (pe_ix (show IxR _ (rIxT K) from ix_tup) (pv 2) (pv 3) (fun _ _ => rfl)) pa_nil)))))) pa_nil)))), ?_⟩
    obtain ⟨pa, xs, rfl, hx, hn⟩ := id hl
    obtain ⟨pb, ys, rfl, hy, hk⟩ := id hm
    have lx := hn.len
    have ly := hk.len
    rw [List.length_map] at lx ly
    refine ⟨_, rfl, pa, xs, rfl, .inr hx, (xs.length : Nat), rfl, by omega, by omega, fun D hD => ?_⟩
    refine lc_range (lo := 0) (n := ((xs.length : Nat) : Int).toNat) (fun i H' => Same H H' ∧ ∃ zs, H' D = some (.lst zs) ∧ NumsV K H' zs (((addL F l m).take i).map F.enc)) ⟨same_new hD, [], upd_same, .nil⟩ ?_ ?_
    · rintro i H2 hi ⟨s2, zs, hz, nz⟩
      have hil : i < l.length := by omega
      obtain ⟨x, e3, n2⟩ := hn.pick hil
      obtain ⟨y, e4, n3⟩ := hk.pick (i := i) (by omega)
      refine ⟨rfl, tYes_of (iteT ?_)⟩
      rw [Int.zero_add]
      refine ⟨_, rfl, _, rfl, _, rfl, pa, xs, _, x, rfl, rfl, Same.seqT s2 hx, atI_nat e3, _, rfl, _, rfl, pb, ys, _, y, rfl, rfl, Same.seqT s2 hy, atI_nat e4, a, x, y, F.enc (vec l i), F.enc (vec m i), rfl, hf, n2.same s2, n3.same s2, ⟨F.num _, b0 i⟩, ⟨F.num _, b1 i⟩, fun H5 u5 s5 hu5 => ?_⟩
      have hu5 : NumV K H5 u5 (F.enc (vec l i + vec m i)) := by
        rw [F.add]
        exact hu5
      have hz5 := s5 _ _ hz
      have lz := nz.len
      rw [List.length_map, List.length_take] at lz
      refine ⟨zs, hz5, small1000 (by omega), same_seqT_upd (s2.trans s5) hD hz5, zs ++ [u5], upd_same, ?_⟩
      have ei : (addL F l m)[i]? = some (vec l i + vec m i) := by
        unfold addL
        rw [List.getElem?_zipWith, vec_lt (by omega), vec_lt (by omega)]
      rw [List.take_add_one, ei, List.map_append]
      exact NumsV.map (fun v q h => h.putL hz5) (NumsV.snoc (NumsV.same s5 nz) hu5)
    · rintro H2 ⟨s2, zs, hz, nz⟩
      have lm : (addL F l m).length ≤ l.length := by
        unfold addL
        rw [List.length_zipWith]
        omega
      rw [List.take_of_length_le (by omega)] at nz
      exact ⟨D, zs, rfl, .inl ⟨SqL.of hz, fun p hp => q _ _ (s2.trans (same_new hp)) ⟨p, zs, rfl, SqT.of upd_same, NumsV.same (same_new hp) nz⟩⟩⟩

open Lin
def spLRow (K : PySem.W.Frag) : Sp := fun vs H Q _ => ∃ (box l : Addr) (f : Int) (w : Nat) (F : Fd f), vs = [.ref box, .int f, .int (w : Nat)] ∧ BoxAt H box l ∧ IsF f ∧ w ≤ 500 ∧ ∀ H' v (ls : List F.F), Stp box l H H' → RowT K H' F v ls → ls.length = w → (∀ x ∈ ls, S99 (F.enc x)) → Q v H'
theorem len__law_row {K vs H Q E} (h : spLRow K vs H Q E) : vs.length = (["_law_box", "_law_field_here", "_law_width"] : List Str).length := by
  obtain ⟨box, l, f, w, F, rfl, _⟩ := h
  rfl
theorem BoxAt.putL {box l D : Addr} {H : Hp} {o : HO} (h : BoxAt H box l) (n1 : D ≠ box) (n2 : D ≠ l) : BoxAt (upd H D o) box l := by
  obtain ⟨ns, i, x, s, c, b1, b2, b3⟩ := h
  refine ⟨ns, i, x, s, c, ?_, ?_, b3⟩
  · rw [upd_ne (fun e => n1 e.symm)]
    exact b1
  · rw [upd_ne (fun e => n2 e.symm)]
    exact b2
theorem d__law_row {P : Program} {w : World} {K : PySem.W.Frag} {mg : Str → Option Value} {base : Heap} (R : Raw K mg "_law_row" s__law_row) (B : Bn mg) (D__law_number : Def P w K mg base "_law_number" 3 ["_law_box", "_law_field_here"] (spNumber K)) : Def P w K mg base "_law_row" 4 ["_law_box", "_law_field_here", "_law_width"] (spLRow K) := by
  obtain ⟨f, fd, F, m⟩ := R
  obtain ⟨f__law_number, fd__law_number, G__law_number, m__law_number, k__law_number, b__law_number⟩ := D__law_number
  refine ⟨f, fd, F.ok sc__law_row (fun vs H Q E h => ?_) (fun cdv A outer s H vs Q E hr h => ?_), m, F.kp, F.binds (ps := ["_law_box", "_law_field_here", "_law_width"]) fun _ _ _ _ _ _ us hl => match us, hl with | [_, _, _], _ => rfl⟩
  · exact len__law_row h

  · obtain ⟨box, l, a, w, F, rfl, hb, hf, w5, q⟩ := h
    refine ⟨_, (pss_one (ps_ret (pe_callTy call_tuple_of (by rfl) B.tuple (by decide +kernel) (pa_cons (pe_lc (own := [("_law_k", 3)]) (g := gName 3) (tt := tYes) rfl sc__law_row.nd (pi_range1 (by rfl) B.range (pa_cons (pv 2) pa_nil)) (blkOk_by (N := ["_law_box", "_law_field_here", "_law_width", "_law_k"]) (sc := defScope s__law_row) (by decide +kernel)) (fun _ _ _ _ _ => pg_name (i := 3) sc__law_row.nd rfl (Or.inl rfl)) (fun _ _ _ _ _ => pts_nil) (fun _ _ _ _ _ => (pe_call G__law_number (hr.mono (by omega)) (by rfl) m__law_number k__law_number b__law_number .nil pass0 (pa_cons (pv 0) (pa_cons (pv 1) pa_nil))))) pa_nil)))), ?_⟩
    refine ⟨_, rfl, (w : Nat), rfl, by omega, by omega, fun D hD => ?_⟩
    have nb : D ≠ box := hb.ne hD
    have nl : D ≠ l := by
      obtain ⟨_, _, _, _, _, _, b2, _⟩ := hb
      exact (ne_of_none b2 hD).symm
    have up : ∀ {H4 : Hp} {o : HO}, Keep box H H4 → Keep box H (upd H4 D o) := fun k b u n e => by
      rw [upd_ne (fun z => by rw [z, hD] at e; cases e)]
      exact k b u n e
    refine lc_range (lo := 0) (n := ((w : Nat) : Int).toNat) (fun i H' => BoxAt H' box l ∧ Keep box H H' ∧ ∃ (zs : List V) (ls : List F.F), H' D = some (.lst zs) ∧ NumsV K H' zs (ls.map F.enc) ∧ ls.length = i ∧ ∀ x ∈ ls, S99 (F.enc x)) ⟨hb.putL nb nl, up (Keep.refl box H), [], [], upd_same, .nil, rfl, (fun x hx => by cases hx)⟩ ?_ ?_
    · rintro i H2 hi ⟨hb2, k2, zs, ls, hz, nz, ll, hs⟩
      refine ⟨rfl, tYes_of (iteT ⟨_, rfl, _, rfl, box, l, a, rfl, hb2, hf, fun H5 v p st hv hN hsm => ?_⟩)⟩
      obtain ⟨x, ex⟩ := F.sur p hN
      have hz5 := st.keep _ _ nb hz
      have nz5 : NumsV K H5 zs (ls.map F.enc) := NumsV.map (fun v q h => h.keep hb2 st.keep) nz
      have lz := nz.len
      rw [List.length_map] at lz
      refine ⟨zs, hz5, small1000 (by omega), st.box.putL nb nl, up (k2.trans st.keep), zs ++ [v], ls ++ [x], upd_same, ?_, by rw [List.length_append, ll]; rfl, fun y hy => ?_⟩
      · rw [List.map_append]
        refine NumsV.map (fun v q h => h.putL hz5) (NumsV.snoc nz5 ?_)
        rw [ex]
        exact hv
      · rcases List.mem_append.mp hy with hy | hy
        · exact hs y hy
        · rw [List.mem_singleton.mp hy]
          show S99 (F.enc x)
          rw [ex]
          exact hsm
    · rintro H2 ⟨hb2, k2, zs, ls, hz, nz, ll, hs⟩
      refine ⟨D, zs, rfl, .inl ⟨SqL.of hz, fun p hp => ?_⟩⟩
      have sp := same_new (o := .tup zs) hp
      exact q _ _ ls ⟨k2.trans (Keep.of sp), hb2.same sp⟩ ⟨p, zs, rfl, SqT.of upd_same, NumsV.same sp nz⟩ (by omega) hs

open Lin
/-! ## the law's rows -/
theorem BoxAt.lst {H : Hp} {box l : Addr} (h : BoxAt H box l) : LstAt H [box] := fun b hb o ho => by
  obtain ⟨ns, i, x, s, c, b1, _⟩ := h
  rw [List.mem_singleton.mp hb, b1] at ho
  cases ho
  exact ⟨_, rfl⟩
theorem Keep.k1 {H H' : Hp} {box : Addr} (k : Keep box H H') : KeepL [box] H H' := fun b o n e => k b o (fun z => n (by rw [z]; exact List.mem_singleton.mpr rfl)) e
theorem addL_len {f : Int} {F : Fd f} {l m : List F.F} (h : l.length = m.length) : (addL F l m).length = l.length := by
  unfold addL
  rw [List.length_zipWith]
  omega
theorem mulL_len {f : Int} {F : Fd f} {l : List F.F} {c : F.F} : (mulL F l c).length = l.length := List.length_map ..
theorem addL_vec {f : Int} {F : Fd f} {l m : List F.F} (h : l.length = m.length) (j : Nat) : letI := F.fld; vec (addL F l m) j = vec l j + vec m j := by
  letI := F.fld
  letI := F.dec
  rcases Nat.lt_or_ge j l.length with hj | hj
  · have ei : (addL F l m)[j]? = some (vec l j + vec m j) := by
      unfold addL
      rw [List.getElem?_zipWith, vec_lt hj, vec_lt (by omega)]
    have e2 := (vec_lt (l := addL F l m) (j := j) (by rw [addL_len h]; exact hj)).symm.trans ei
    exact Option.some.inj e2
  · rw [vec_ge (by rw [addL_len h]; exact hj), vec_ge hj, vec_ge (by omega)]
    grind
theorem mulL_vec {f : Int} {F : Fd f} {l : List F.F} {c : F.F} (j : Nat) : letI := F.fld; vec (mulL F l c) j = vec l j * c := by
  letI := F.fld
  letI := F.dec
  rcases Nat.lt_or_ge j l.length with hj | hj
  · have ei : (mulL F l c)[j]? = some (vec l j * c) := by
      unfold mulL
      rw [List.getElem?_map, vec_lt hj]
      rfl
    have e2 := (vec_lt (l := mulL F l c) (j := j) (by rw [mulL_len]; exact hj)).symm.trans ei
    exact Option.some.inj e2
  · rw [vec_ge (by rw [mulL_len]; exact hj), vec_ge hj]
    grind
/-- how high the row of a number may stand -/
def hgt (i : Nat) : Nat := 44 * 2 ^ i - 1
theorem hgt_43 (i : Nat) : 43 ≤ hgt i := by
  have : 1 ≤ 2 ^ i := Nat.one_le_two_pow
  unfold hgt
  omega
theorem hgt_up {i j : Nat} (h : j < i) : hgt j + hgt j + 1 ≤ hgt i := by
  have : 2 ^ (j + 1) ≤ 2 ^ i := Nat.pow_le_pow_right (by decide) h
  rw [Nat.pow_succ] at this
  have : 1 ≤ 2 ^ j := Nat.one_le_two_pow
  unfold hgt
  omega
theorem hgt_le {i j : Nat} (h : j ≤ i) : hgt j ≤ hgt i := by
  have : 2 ^ j ≤ 2 ^ i := Nat.pow_le_pow_right (by decide) h
  unfold hgt
  omega
theorem hgt_5 {i : Nat} (h : i < 6) : hgt i ≤ 1407 := hgt_le (i := 5) (by omega)
def HtL {f : Int} (F : Fd f) (L : List (List F.F)) : Prop := letI := F.fld; ∀ i l, L[i]? = some l → Ht F (hgt i) (vec l)
theorem HtL.orgs {f : Int} {F : Fd f} : letI := F.fld; ∀ (L : List (List F.F)) (i : Nat), (∀ j l, L[j]? = some l → Ht F (hgt (i + j)) (vec l)) → OrgL F [] [] (L.map vec) (44 * 2 ^ (i + L.length) - 44 * 2 ^ i)
  | [], _, _ => True.intro
  | l :: L, i, h => by
    letI := F.fld
    have h1 := h 0 l rfl
    have h2 := HtL.orgs L (i + 1) fun j m e => by
      have e1 : i + 1 + j = i + (j + 1) := by omega
      rw [e1]
      exact h (j + 1) m (by simpa using e)
    refine ⟨_, _, Org.start h1, h2, ?_⟩
    have e : i + 1 + L.length = i + (L.length + 1) := by omega
    have p1 : 2 ^ (i + 1) ≤ 2 ^ (i + (L.length + 1)) := Nat.pow_le_pow_right (by decide) (by omega)
    have p2 : 2 ^ (i + 1) = 2 ^ i * 2 := Nat.pow_succ ..
    have p3 : 1 ≤ 2 ^ i := Nat.one_le_two_pow
    rw [e]
    show hgt (i + 0) + (44 * 2 ^ (i + (L.length + 1)) - 44 * 2 ^ (i + 1)) ≤ 44 * 2 ^ (i + (L.length + 1)) - 44 * 2 ^ i
    unfold hgt
    rw [Nat.add_zero]
    omega
theorem HtL.org {f : Int} {F : Fd f} {L : List (List F.F)} (h : HtL F L) (l6 : L.length ≤ 6) : letI := F.fld; ∃ s, s ≤ 2772 ∧ OrgL F [] [] (L.map vec) s := by
  refine ⟨_, ?_, HtL.orgs L 0 fun j l e => by rw [Nat.zero_add]; exact h j l e⟩
  have : 2 ^ (0 + L.length) ≤ 2 ^ 6 := Nat.pow_le_pow_right (by decide) (by omega)
  omega
theorem HtL.set {f : Int} {F : Fd f} {L : List (List F.F)} (h : HtL F L) {i : Nat} {l : List F.F} (hl : letI := F.fld; Ht F (hgt i) (vec l)) : HtL F (L.set i l) := by
  letI := F.fld
  intro j m e
  by_cases c : i = j
  · subst c
    rcases Nat.lt_or_ge i L.length with hi | hi
    · rw [List.getElem?_set_self hi] at e
      cases e
      exact hl
    · rw [List.getElem?_eq_none (by rw [List.length_set]; exact hi)] at e
      cases e
  · rw [List.getElem?_set_ne c] at e
    exact h j m e
/-- the rows on their way: n of them, at D -/
def LR (K : PySem.W.Frag) (box l D : Addr) (H : Hp) {f : Int} (F : Fd f) (n w : Nat) (H' : Hp) : Prop := BoxAt H' box l ∧ Keep box H H' ∧ ∃ (ys : List V) (L : List (List F.F)), H' D = some (.lst ys) ∧ RTs K H' F ys L ∧ L.length = n ∧ (∀ x ∈ L, x.length = w) ∧ HtL F L
theorem LR.stp {K : PySem.W.Frag} {box l D : Addr} {H H1 H2 : Hp} {f : Int} {F : Fd f} {n w : Nat} (nb : D ≠ box) (h : LR K box l D H F n w H1) (s : Stp box l H1 H2) : LR K box l D H F n w H2 := by
  obtain ⟨h1, h2, ys, L, h3, h4, h5⟩ := h
  exact ⟨s.box, h2.trans s.keep, ys, L, s.keep _ _ nb h3, RTs.k1 h1.lst s.keep.k1 h4, h5⟩
theorem LR.set {K : PySem.W.Frag} {box l D : Addr} {H H1 : Hp} {f : Int} {F : Fd f} {n w i : Nat} {v : V} {x : List F.F} (nb : D ≠ box) (nl : D ≠ l) (HD : H D = none) (h : LR K box l D H F n w H1) (hv : RowT K H1 F v x) (lx : x.length = w) (hx : letI := F.fld; Ht F (hgt i) (vec x)) {ys : List V} (hy : H1 D = some (.lst ys)) :
    LR K box l D H F n w (upd H1 D (.lst (ys.set i v))) := by
  obtain ⟨h1, h2, ys', L, h3, h4, h5, h6, h7⟩ := h
  rw [hy] at h3
  cases h3
  refine ⟨h1.putL nb nl, fun b u n e => ?_, ys.set i v, L.set i x, upd_same, RTs.k1 (LstAt.one hy) (k1_put (List.mem_cons_self ..)) (RTs.set hv i h4), by rw [List.length_set]; exact h5, fun y hy => ?_, h7.set hx⟩
  · rw [upd_ne (fun z => by rw [z, HD] at e; cases e)]
    exact h2 b u n e
  · rcases List.mem_or_eq_of_mem_set hy with hy | hy
    · exact h6 y hy
    · rw [hy]
      exact lx
def spLRows (K : PySem.W.Frag) : Sp := fun vs H Q _ => ∃ (box l : Addr) (f : Int) (w : Nat) (F : Fd f), vs = [.ref box, .int f, .int (w : Nat), .int 6] ∧ BoxAt H box l ∧ IsF f ∧ w ≤ 6 ∧
  ∀ H' r xs (L : List (List F.F)), Stp box l H H' → H r = none → r ≠ box → H' r = some (.lst xs) → RTs K H' F xs L → (∀ x ∈ L, x.length = w) → L.length ≤ 6 → HtL F L → Q (.ref r) H'
theorem len__law_rows {K vs H Q E} (h : spLRows K vs H Q E) : vs.length = (["_law_box", "_law_field_here", "_law_width", "_law_most"] : List Str).length := by
  obtain ⟨box, l, f, w, F, rfl, _⟩ := h
  rfl
open Lin
/-! ## sums of products -/
def DotOk {f : Int} (F : Fd f) (l c : List F.F) : Prop := letI := F.fld; letI := F.dec; l.length ≤ c.length ∧ l.length ≤ 1000 ∧ (∀ j, Sz6 F (vec l j)) ∧ (∀ j, Sz6 F (vec c j)) ∧ (∀ j, Sz6 F (vec l j * vec c j)) ∧ ∀ k, k ≤ l.length → Sz6 F (dotN l c k)
def spDot (K : PySem.W.Frag) : Sp := fun vs H Q _ => ∃ (f : Int) (row col : V) (F : Fd f) (l c : List F.F), vs = [.int f, row, col] ∧ IsF f ∧ RowT K H F row l ∧ RowT K H F col c ∧ DotOk F l c ∧ ∀ H' v, Same H H' → (letI := F.fld; letI := F.dec; NumV K H' v (F.enc (dotN l c l.length))) → Q v H'
theorem len__law_dot {K vs H Q E} (h : spDot K vs H Q E) : vs.length = (["_law_field_here", "_law_row_here", "_law_column"] : List Str).length := by
  obtain ⟨f, row, col, F, l, c, rfl, _⟩ := h
  rfl
def spLed (K : PySem.W.Frag) : Sp := fun vs H Q _ => ∃ (f : Int) (t : Bool) (r : Addr) (xs : List V) (col : V) (F : Fd f) (L : List (List F.F)) (c : List F.F), vs = [.int f, .ref r, col] ∧ IsF f ∧ ZM.Sq t K H r xs ∧ RTs K H F xs L ∧ RowT K H F col c ∧ L.length ≤ 900 ∧ (∀ l ∈ L, DotOk F l c) ∧
  ∀ H' v, Same H H' → (letI := F.fld; letI := F.dec; RowT K H' F v (L.map fun l => dotN l c l.length)) → Q v H'
theorem len__law_led {K vs H Q E} (h : spLed K vs H Q E) : vs.length = (["_law_field_here", "_law_table", "_law_column"] : List Str).length := by
  obtain ⟨f, t, r, xs, col, F, L, c, rfl, _⟩ := h
  rfl
/-- so many noughts -/
def spNothing (K : PySem.W.Frag) : Sp := fun vs H Q _ => ∃ (w : Nat), vs = [.int (w : Nat)] ∧ w ≤ 1000 ∧ ∀ H' v, Same H H' → (∀ {f : Int} (F : Fd f), letI := F.fld; RowT K H' F v (List.replicate w 0)) → Q v H'
theorem len__law_nothing {K vs H Q E} (h : spNothing K vs H Q E) : vs.length = (["_law_width"] : List Str).length := by
  obtain ⟨w, rfl, _⟩ := h
  rfl
theorem d__law_nothing {P : Program} {w : World} {K : PySem.W.Frag} {mg : Str → Option Value} {base : Heap} (R : Raw K mg "_law_nothing" s__law_nothing)  : Def P w K mg base "_law_nothing" 1 ["_law_width"] (spNothing K) := by
  obtain ⟨f, fd, F, m⟩ := R
  refine ⟨f, fd, F.ok sc__law_nothing (fun vs H Q E h => ?_) (fun cdv A outer s H vs Q E hr h => ?_), m, F.kp, F.binds (ps := ["_law_width"]) fun _ _ _ _ _ _ us hl => match us, hl with | [_], _ => rfl⟩
  · exact len__law_nothing h

  · obtain ⟨w, rfl, w1, q⟩ := h
    refine ⟨_, (pss_one (ps_ret (pe_op op_repA (pe_tup (pa_cons (pe_tup (pa_cons pe_int (pa_cons pe_int pa_nil))) pa_nil)) (pv 0)))), ?_⟩
    refine ⟨(by show 2 ≤ sizeLine; decide), fun p1 h1 => ?_⟩
    have t1 := same_new (o := .tup [.int 0, .int 1]) h1
    refine ⟨(by show 1 ≤ sizeLine; decide), fun p2 h2 => ?_⟩
    have t2 := same_new (o := .tup [.ref p1]) h2
    refine ⟨_, rfl, p2, w, [.ref p1], rfl, rfl, SqT.of upd_same, by simp, w1, (by show 1 ≤ 1000; decide), fun H' p s hp => ?_⟩
    rw [flat_reps] at hp
    refine q _ _ ((t1.trans t2).trans s) fun F => ?_
    letI := F.fld
    refine ⟨p, _, rfl, hp, ?_⟩
    rw [List.map_replicate, F.zero]
    exact NumsV.reps (q := (0, 1)) (((NumV.new 0 1).same t2).same s) w

/-! ## _law_like -/
theorem tyT {K : PySem.W.Frag} {H : Hp} {a : Addr} {xs : List V} (h : SqT K H a xs) : TyX K H (.ref a) (.type "tuple") := by
  rcases h with (h | ⟨o, h⟩) | ⟨o, _, _, h1, h2, _⟩
  · exact .base (.tup h)
  · exact .fTuple h
  · exact .kTuple h1 h2
theorem tyL {K : PySem.W.Frag} {H : Hp} {a : Addr} {xs : List V} (h : SqL K H a xs) : TyX K H (.ref a) (.type "list") := by
  rcases h with (h | ⟨o, h⟩) | ⟨o, _, _, h1, h2, _⟩
  · exact .base (.lst h)
  · exact .base (.frz h)
  · exact .kList h1 h2
def spInt : Sp := fun vs H Q _ => ∃ i : Int, vs = [.int i] ∧ Q (.bl true) H
theorem len__law_int {vs H Q E} (h : spInt vs H Q E) : vs.length = (["_law_found"] : List Str).length := by
  obtain ⟨i, rfl, _⟩ := h
  rfl
theorem d__law_int {P : Program} {w : World} {K : PySem.W.Frag} {mg : Str → Option Value} {base : Heap} (R : Raw K mg "_law_int" s__law_int) (B : Bn mg)  : Def P w K mg base "_law_int" 1 ["_law_found"] (spInt) := by
  obtain ⟨f, fd, F, m⟩ := R
  refine ⟨f, fd, F.ok sc__law_int (fun vs H Q E h => ?_) (fun cdv A outer s H vs Q E hr h => ?_), m, F.kp, F.binds (ps := ["_law_found"]) fun _ _ _ _ _ _ us hl => match us, hl with | [_], _ => rfl⟩
  · exact len__law_int h

  · obtain ⟨i, rfl, q⟩ := h
    refine ⟨_, (pss_one (ps_ret (pe_and (pe_callB call_isi (by rfl) B.isinstance (by decide +kernel) (pa_cons (pv 0) (pa_cons (pe_bltn (v := .ty "int") (by rfl) B.int (by decide +kernel) rfl) pa_nil))) (pe_one (pe_not (pe_callB call_isi (by rfl) B.isinstance (by decide +kernel) (pa_cons (pv 0) (pa_cons (pe_bltn (v := .ty "bool") (by rfl) B.bool (by decide +kernel) rfl) pa_nil)))))))), ?_⟩
    refine ⟨_, rfl, _, _, _, _, true, rfl, .ty _, .base (.int i), kit_ty (by decide +kernel), true, rfl, iteT ?_⟩
    exact ⟨_, rfl, _, _, _, _, false, rfl, .ty _, .base (.int i), kit_ty (by decide +kernel), false, rfl, q⟩
/-- data of a depth, its lists not too long -/
def okD : Nat → PyData → Prop
  | _, .none => True
  | _, .bool _ => True
  | _, .int _ => True
  | _, .str _ => True
  | n + 1, .list ds => ds.length ≤ 1000 ∧ ∀ d, d ∈ ds → okD n d
  | n + 1, .tuple ds => ds.length ≤ 1000 ∧ ∀ d, d ∈ ds → okD n d
  | _, _ => False
/-- the two hold the same data -/
def spLike (K : PySem.W.Frag) (n : Nat) : Sp := fun vs H Q _ => ∃ (x y : V) (d : PyData), vs = [x, y] ∧ Dp K H x d ∧ Dp K H y d ∧ okD n d ∧ ∀ H', Same H H' → Q (.bl true) H'
theorem len__law_like {K n vs H Q E} (h : spLike K n vs H Q E) : vs.length = (["_law_found", "_law_due"] : List Str).length := by
  obtain ⟨x, y, d, rfl, _⟩ := h
  rfl
theorem DpAll.get {K : PySem.W.Frag} {H : Hp} : ∀ {vs : List V} {ds : List PyData} {i : Nat}, DpAll K H vs ds → i < ds.length → ∃ v d, vs[i]? = some v ∧ ds[i]? = some d ∧ Dp K H v d
  | _, _, _, .nil, h => by cases h
  | _, _, 0, .cons r _, _ => ⟨_, _, rfl, rfl, r⟩
  | _, _, i + 1, .cons _ t, h => by
    obtain ⟨v, d, h1, h2, h3⟩ := DpAll.get (i := i) t (Nat.lt_of_succ_lt_succ h)
    exact ⟨v, d, h1, h2, h3⟩
theorem DpAll.length {K : PySem.W.Frag} {H : Hp} : ∀ {vs : List V} {ds : List PyData}, DpAll K H vs ds → vs.length = ds.length
  | _, _, .nil => rfl
  | _, _, .cons _ t => congrArg Nat.succ (DpAll.length t)
mutual
theorem Dp.same {K : PySem.W.Frag} {H H' : Hp} (s : Same H H') : ∀ {v : V} {d : PyData}, Dp K H v d → Dp K H' v d
  | _, _, .non => .non
  | _, _, .bl b => .bl b
  | _, _, .int i => .int i
  | _, _, .str x => .str x
  | _, _, .lst h a => .lst (s.seq h) (DpAll.same s a)
  | _, _, .tup h a => .tup (Same.seqT s h) (DpAll.same s a)
theorem DpAll.same {K : PySem.W.Frag} {H H' : Hp} (s : Same H H') : ∀ {vs : List V} {ds : List PyData}, DpAll K H vs ds → DpAll K H' vs ds
  | _, _, .nil => .nil
  | _, _, .cons r t => .cons (Dp.same s r) (DpAll.same s t)
end
theorem like_ok {P : Program} {w : World} {K : PySem.W.Frag} {mg : Str → Option Value} {base : Heap} {f : Addr} {fd : FuncData} (F : Fun K "_law_like" "_law_like" s__law_like f fd) (m__law_like : mg "_law_like" = some (.ref f)) (B : Bn mg)
    (D__law_int : Def P w K mg base "_law_int" 1 ["_law_found"] spInt) : ∀ n, FnOk P w K mg base CX0 (n + 2) f fd ["_law_found", "_law_due"] (spLike K n) := by
  obtain ⟨f__law_int, fd__law_int, G__law_int, m__law_int, k__law_int, b__law_int⟩ := D__law_int
  have b__law_like := F.binds (ps := ["_law_found", "_law_due"]) fun _ _ _ _ _ _ us hl => match us, hl with | [_, _], _ => rfl
  have k__law_like := F.kp
  have run : ∀ n (spL : Sp) (E1 : ∀ vs H Q E, spL vs H Q E → spL vs H Q E), (n = 0 ∨ ∃ m, n = m + 1 ∧ spL = spLike K m) → FnOk P w K mg base CX0 (n + 1) f fd ["_law_found", "_law_due"] spL → FnOk P w K mg base CX0 (n + 2) f fd ["_law_found", "_law_due"] (spLike K n) := by
    intro n spL _ hn G__law_like
    refine F.ok sc__law_like (fun vs H Q E h => len__law_like h) (fun cdv A outer s H vs Q E hr h => ?_)
    obtain ⟨x, y, d, rfl, hx, hy, hd, q⟩ := h
    refine ⟨_, (pss_cons (ps_if (pt_cmpR op_isN (pv 1) pe_non (nomark _)) (pss_one (ps_ret (pe_cmpR op_isN (pv 0) pe_non (nomark _)))) pss_nil) (pss_cons (ps_if (pt_val (pe_callB call_isi (by rfl) B.isinstance (by decide +kernel) (pa_cons (pv 1) (pa_cons (pe_bltn (v := .ty "bool") (by rfl) B.bool (by decide +kernel) rfl) pa_nil)))) (pss_one (ps_ret (pe_and (pe_callB call_isi (by rfl) B.isinstance (by decide +kernel) (pa_cons (pv 0) (pa_cons (pe_bltn (v := .ty "bool") (by rfl) B.bool (by decide +kernel) rfl) pa_nil))) (pe_one (pe_cmpR op_eq (pv 0) (pv 1) (nomark _)))))) pss_nil) (pss_cons (ps_if (pt_val (pe_callB call_isi (by rfl) B.isinstance (by decide +kernel) (pa_cons (pv 1) (pa_cons (pe_bltn (v := .ty "int") (by rfl) B.int (by decide +kernel) rfl) pa_nil)))) (pss_one (ps_ret (pe_and (pe_call G__law_int (hr.mono (by omega)) (by rfl) m__law_int k__law_int b__law_int .nil pass0 (pa_cons (pv 0) pa_nil)) (pe_one (pe_cmpR op_eq (pv 0) (pv 1) (nomark _)))))) pss_nil) (pss_cons (ps_if (pt_val (pe_callB call_isi (by rfl) B.isinstance (by decide +kernel) (pa_cons (pv 1) (pa_cons (pe_bltn (v := .ty "str") (by rfl) B.str (by decide +kernel) rfl) pa_nil)))) (pss_one (ps_ret (pe_and (pe_callB call_isi (by rfl) B.isinstance (by decide +kernel) (pa_cons (pv 0) (pa_cons (pe_bltn (v := .ty "str") (by rfl) B.str (by decide +kernel) rfl) pa_nil))) (pe_one (pe_cmpR op_eq (pv 0) (pv 1) (nomark _)))))) pss_nil) (pss_cons (ps_if (PW.pt (pw_or (pt_cmpR op_ne (pe_callB call_isi (by rfl) B.isinstance (by decide +kernel) (pa_cons (pv 1) (pa_cons (pe_bltn (v := .ty "tuple") (by rfl) B.tuple (by decide +kernel) rfl) pa_nil))) (pe_callB call_isi (by rfl) B.isinstance (by decide +kernel) (pa_cons (pv 0) (pa_cons (pe_bltn (v := .ty "tuple") (by rfl) B.tuple (by decide +kernel) rfl) pa_nil))) (nomark _)) (pw_or1 (pt_cmpR op_ne (pe_callB call_isi (by rfl) B.isinstance (by decide +kernel) (pa_cons (pv 1) (pa_cons (pe_bltn (v := .ty "list") (by rfl) B.list (by decide +kernel) rfl) pa_nil))) (pe_callB call_isi (by rfl) B.isinstance (by decide +kernel) (pa_cons (pv 0) (pa_cons (pe_bltn (v := .ty "list") (by rfl) B.list (by decide +kernel) rfl) pa_nil))) (nomark _))))) (pss_one (ps_ret pe_bl)) pss_nil) (pss_one (ps_ret (pe_and (pe_cmpR op_eq (pe_callB call_len_seq (by rfl) B.len PySem.boot_len (pa_cons (pv 0) pa_nil)) (pe_callB call_len_seq (by rfl) B.len PySem.boot_len (pa_cons (pv 1) pa_nil)) (nomark _)) (pe_one (pe_callB (cr_all rfl) (by rfl) B.all (by decide +kernel) (pa_cons (pe_lc (own := [("_law_k", 2)]) (g := gName 2) (tt := tYes) rfl sc__law_like.nd (pi_range1 (by rfl) B.range (pa_cons (pe_callB call_len_seq (by rfl) B.len PySem.boot_len (pa_cons (pv 1) pa_nil)) pa_nil)) (blkOk_by (N := ["_law_found", "_law_due", "_law_k"]) (sc := defScope s__law_like) (by decide +kernel)) (fun _ _ _ _ _ => pg_name (i := 2) sc__law_like.nd rfl (Or.inl rfl)) (fun _ _ _ _ _ => pts_nil) (fun _ _ _ _ _ => (pe_call G__law_like (hr.mono (by omega)) (by rfl) m__law_like k__law_like b__law_like .nil pass0 (pa_cons (pe_ix (show IxR _ (rIx K) from ix_seq) (pv 0) (pv 2) (fun _ _ => rfl)) (pa_cons (pe_ix (show IxR _ (rIx K) from ix_seq) (pv 1) (pv 2) (fun _ _ => rfl)) pa_nil))))) pa_nil))))))))))), ?_⟩
    have sameQ : Q (.bl true) H := q H (Same.refl H)
    cases hx with
    | non =>
      cases hy
      exact ⟨_, rfl, rfl, _, rfl, iteT ⟨_, rfl, rfl, sameQ⟩⟩
    | bl b =>
      cases hy
      refine ⟨_, rfl, rfl, _, rfl, iteF ?_⟩
      refine ⟨_, rfl, _, _, _, _, true, rfl, .ty _, .base (.bl b), kit_ty (by decide +kernel), true, rfl, iteT ?_⟩
      refine ⟨_, rfl, _, _, _, _, true, rfl, .ty _, .base (.bl b), kit_ty (by decide +kernel), true, rfl, iteT ?_⟩
      refine ⟨_, rfl, _, rfl, rfl, ?_⟩
      rw [decide_eq_true rfl]
      exact sameQ
    | int i =>
      cases hy
      refine ⟨_, rfl, rfl, _, rfl, iteF ?_⟩
      refine ⟨_, rfl, _, _, _, _, false, rfl, .ty _, .base (.int i), kit_ty (by decide +kernel), false, rfl, iteF ?_⟩
      refine ⟨_, rfl, _, _, _, _, true, rfl, .ty _, .base (.int i), kit_ty (by decide +kernel), true, rfl, iteT ?_⟩
      refine ⟨_, rfl, i, rfl, true, rfl, iteT ?_⟩
      refine ⟨_, rfl, _, rfl, rfl, ?_⟩
      rw [decide_eq_true rfl]
      exact sameQ
    | str z =>
      cases hy
      refine ⟨_, rfl, rfl, _, rfl, iteF ?_⟩
      refine ⟨_, rfl, _, _, _, _, false, rfl, .ty _, .base (.str z), kit_ty (by decide +kernel), false, rfl, iteF ?_⟩
      refine ⟨_, rfl, _, _, _, _, false, rfl, .ty _, .base (.str z), kit_ty (by decide +kernel), false, rfl, iteF ?_⟩
      refine ⟨_, rfl, _, _, _, _, true, rfl, .ty _, .base (.str z), kit_ty (by decide +kernel), true, rfl, iteT ?_⟩
      refine ⟨_, rfl, _, _, _, _, true, rfl, .ty _, .base (.str z), kit_ty (by decide +kernel), true, rfl, iteT ?_⟩
      refine ⟨_, rfl, _, rfl, rfl, ?_⟩
      rw [decide_eq_true rfl]
      exact sameQ
    | @lst a xs ds hA aA =>
      cases hy with
      | @lst b ys _ hB aB =>
      cases n with
      | zero => exact hd.elim
      | succ n =>
      obtain ⟨hlen, hall⟩ := hd
      obtain ⟨m, em, rfl⟩ := hn.resolve_left (by simp)
      have em : n = m := Nat.succ.inj em
      subst em
      have lx := DpAll.length aA
      have ly := DpAll.length aB
      refine ⟨_, rfl, rfl, _, rfl, iteF ?_⟩
      refine ⟨_, rfl, _, _, _, _, false, rfl, .ty _, tyL hB, kit_ty (by decide +kernel), false, rfl, iteF ?_⟩
      refine ⟨_, rfl, _, _, _, _, false, rfl, .ty _, tyL hB, kit_ty (by decide +kernel), false, rfl, iteF ?_⟩
      refine ⟨_, rfl, _, _, _, _, false, rfl, .ty _, tyL hB, kit_ty (by decide +kernel), false, rfl, iteF ?_⟩
      refine ⟨_, rfl, _, _, _, _, false, rfl, .ty _, tyL hB, kit_ty (by decide +kernel), _, rfl, _, _, _, _, false, rfl, .ty _, tyL hA, kit_ty (by decide +kernel), rfl, _, rfl, iteF ?_⟩
      refine ⟨_, rfl, _, _, _, _, true, rfl, .ty _, tyL hB, kit_ty (by decide +kernel), _, rfl, _, _, _, _, true, rfl, .ty _, tyL hA, kit_ty (by decide +kernel), rfl, _, rfl, iteF ?_⟩
      refine ⟨_, rfl, a, _, rfl, .inl hA, _, rfl, b, _, rfl, .inl hB, rfl, true, ?_, iteT ?_⟩
      · rw [lx, ly]
        rw [decide_eq_true rfl]
      refine ⟨_, rfl, b, _, rfl, .inl hB, (ys.length : Int), rfl, by omega, by omega, fun D hD => ?_⟩
      refine lc_range (lo := 0) (n := (ys.length : Int).toNat) (fun i H' => Same H H' ∧ H' D = some (.lst (List.replicate i (V.bl true)))) ⟨same_new hD, upd_same⟩ ?_ ?_
      · rintro i H' hi ⟨s1, hD'⟩
        have hi2 : i < ds.length := by
          rw [Int.toNat_natCast] at hi
          omega
        obtain ⟨vx, d1, ex1, ed1, r1⟩ := DpAll.get aA hi2
        obtain ⟨vy, d2, ey2, ed2, r2⟩ := DpAll.get aB hi2
        have e12 : d1 = d2 := Option.some.inj (ed1.symm.trans ed2)
        subst e12
        refine ⟨rfl, tYes_of (iteT ?_)⟩
        have ei : (0 : Int) + (i : Int) = ((i : Nat) : Int) := by omega
        refine ⟨_, rfl, _, rfl, .inl ⟨a, _, _, _, rfl, rfl, s1.seq hA, by rw [ei]; exact atI_nat ex1, ?_⟩⟩
        refine ⟨_, rfl, _, rfl, .inl ⟨b, _, _, _, rfl, rfl, s1.seq hB, by rw [ei]; exact atI_nat ey2, ?_⟩⟩
        refine ⟨_, _, d1, rfl, Dp.same s1 r1, Dp.same s1 r2, hall d1 (List.mem_of_getElem? ed1), fun H2 s2 => ?_⟩
        refine ⟨_, s2 _ _ hD', by rw [List.length_replicate]; exact small1000 (by omega), same_seqT_upd (s1.trans s2) hD (s2 _ _ hD'), ?_⟩
        rw [upd_same, List.replicate_succ']
      · rintro H' ⟨s1, hD'⟩
        refine ⟨D, List.replicate (ys.length : Int).toNat true, rfl, ?_, ?_⟩
        · rw [List.map_replicate]
          exact SqL.of hD'
        · have e : (List.replicate (ys.length : Int).toNat true).all id = true := by simp
          rw [e]
          exact q H' s1
    | @tup a xs ds hA aA =>
      cases hy with
      | @tup b ys _ hB aB =>
      cases n with
      | zero => exact hd.elim
      | succ n =>
      obtain ⟨hlen, hall⟩ := hd
      obtain ⟨m, em, rfl⟩ := hn.resolve_left (by simp)
      have em : n = m := Nat.succ.inj em
      subst em
      have lx := DpAll.length aA
      have ly := DpAll.length aB
      refine ⟨_, rfl, rfl, _, rfl, iteF ?_⟩
      refine ⟨_, rfl, _, _, _, _, false, rfl, .ty _, tyT hB, kit_ty (by decide +kernel), false, rfl, iteF ?_⟩
      refine ⟨_, rfl, _, _, _, _, false, rfl, .ty _, tyT hB, kit_ty (by decide +kernel), false, rfl, iteF ?_⟩
      refine ⟨_, rfl, _, _, _, _, false, rfl, .ty _, tyT hB, kit_ty (by decide +kernel), false, rfl, iteF ?_⟩
      refine ⟨_, rfl, _, _, _, _, true, rfl, .ty _, tyT hB, kit_ty (by decide +kernel), _, rfl, _, _, _, _, true, rfl, .ty _, tyT hA, kit_ty (by decide +kernel), rfl, _, rfl, iteF ?_⟩
      refine ⟨_, rfl, _, _, _, _, false, rfl, .ty _, tyT hB, kit_ty (by decide +kernel), _, rfl, _, _, _, _, false, rfl, .ty _, tyT hA, kit_ty (by decide +kernel), rfl, _, rfl, iteF ?_⟩
      refine ⟨_, rfl, a, _, rfl, .inr hA, _, rfl, b, _, rfl, .inr hB, rfl, true, ?_, iteT ?_⟩
      · rw [lx, ly]
        rw [decide_eq_true rfl]
      refine ⟨_, rfl, b, _, rfl, .inr hB, (ys.length : Int), rfl, by omega, by omega, fun D hD => ?_⟩
      refine lc_range (lo := 0) (n := (ys.length : Int).toNat) (fun i H' => Same H H' ∧ H' D = some (.lst (List.replicate i (V.bl true)))) ⟨same_new hD, upd_same⟩ ?_ ?_
      · rintro i H' hi ⟨s1, hD'⟩
        have hi2 : i < ds.length := by
          rw [Int.toNat_natCast] at hi
          omega
        obtain ⟨vx, d1, ex1, ed1, r1⟩ := DpAll.get aA hi2
        obtain ⟨vy, d2, ey2, ed2, r2⟩ := DpAll.get aB hi2
        have e12 : d1 = d2 := Option.some.inj (ed1.symm.trans ed2)
        subst e12
        refine ⟨rfl, tYes_of (iteT ?_)⟩
        have ei : (0 : Int) + (i : Int) = ((i : Nat) : Int) := by omega
        refine ⟨_, rfl, _, rfl, .inr (.inl ⟨a, _, _, _, rfl, rfl, Same.seqT s1 hA, by rw [ei]; exact atI_nat ex1, ?_⟩)⟩
        refine ⟨_, rfl, _, rfl, .inr (.inl ⟨b, _, _, _, rfl, rfl, Same.seqT s1 hB, by rw [ei]; exact atI_nat ey2, ?_⟩)⟩
        refine ⟨_, _, d1, rfl, Dp.same s1 r1, Dp.same s1 r2, hall d1 (List.mem_of_getElem? ed1), fun H2 s2 => ?_⟩
        refine ⟨_, s2 _ _ hD', by rw [List.length_replicate]; exact small1000 (by omega), same_seqT_upd (s1.trans s2) hD (s2 _ _ hD'), ?_⟩
        rw [upd_same, List.replicate_succ']
      · rintro H' ⟨s1, hD'⟩
        refine ⟨D, List.replicate (ys.length : Int).toNat true, rfl, ?_, ?_⟩
        · rw [List.map_replicate]
          exact SqL.of hD'
        · have e : (List.replicate (ys.length : Int).toNat true).all id = true := by simp
          rw [e]
          exact q H' s1
  intro n
  induction n with
  | zero => exact run 0 (fun _ _ _ _ => False) (fun _ _ _ _ h => h) (.inl rfl) (F.ok sc__law_like (fun _ _ _ _ h => h.elim) (fun _ _ _ _ _ _ _ _ _ h => h.elim))
  | succ n ih => exact run (n + 1) (spLike K n) (fun _ _ _ _ h => h) (.inr ⟨n, rfl, rfl⟩) ih

open Lin
/-! ## the law's own reducing -/
def LayN (n : Nat) (d : PyData) : Prop := d.canLay0 = true ∧ d.depth ≤ n
theorem layAll {n : Nat} : ∀ {ds : List PyData}, (∀ d ∈ ds, LayN n d) → PyData.canLayAll0 ds = true ∧ PyData.depthAll ds ≤ n
  | [], _ => ⟨rfl, Nat.zero_le _⟩
  | d :: ds, h => by
    obtain ⟨h1, h2⟩ := h d (List.mem_cons_self ..)
    obtain ⟨h3, h4⟩ := layAll (ds := ds) fun e he => h e (List.mem_cons_of_mem _ he)
    refine ⟨?_, ?_⟩
    · show (d.canLay0 && PyData.canLayAll0 ds) = true
      rw [h1, h3]
      rfl
    · show max d.depth (PyData.depthAll ds) ≤ n
      omega
theorem lay_list {n : Nat} {ds : List PyData} (h : ∀ d ∈ ds, LayN n d) : LayN (n + 1) (.list ds) := by
  obtain ⟨h1, h2⟩ := layAll h
  exact ⟨h1, by show PyData.depthAll ds + 1 ≤ n + 1; omega⟩
theorem lay_tup {n : Nat} {ds : List PyData} (h : ∀ d ∈ ds, LayN n d) : LayN (n + 1) (.tuple ds) := by
  obtain ⟨h1, h2⟩ := layAll h
  exact ⟨h1, by show PyData.depthAll ds + 1 ≤ n + 1; omega⟩
theorem lay_int (i : Int) : LayN 0 (.int i) := ⟨rfl, Nat.le_refl _⟩
theorem LayN.mono {n m : Nat} {d : PyData} (h : LayN n d) (k : n ≤ m) : LayN m d := ⟨h.1, Nat.le_trans h.2 k⟩
theorem LayN.shaped {n : Nat} {d : PyData} (h : LayN n d) (k : n ≤ 64) : SeqAt.shaped d = true := by
  unfold SeqAt.shaped
  rw [h.1, decide_eq_true (Nat.le_trans h.2 k)]
  rfl

open Lin
/-! ## rows as data -/
def numD (q : Pr) : PyData := .tuple [.int q.1, .int q.2]
def rowD {f : Int} (F : Fd f) (l : List F.F) : PyData := .tuple (l.map fun x => numD (F.enc x))
section
variable {K : PySem.W.Frag} {H : Hp} {f : Int} {F : Fd f}
theorem dp_nums : ∀ {vs : List V} {l : List F.F}, NumsV K H vs (l.map F.enc) → DpAll K H vs (l.map fun x => numD (F.enc x))
  | _, [], h => by
    cases h
    exact .nil
  | _, x :: l, h => by
    cases h with
    | cons g r => exact .cons (dp_num g) (dp_nums r)
theorem RowT.dp {v : V} {l : List F.F} (h : RowT K H F v l) : Dp K H v (rowD F l) := by
  obtain ⟨a, xs, rfl, h1, h2⟩ := h
  exact .tup h1 (dp_nums h2)
theorem RTs.dp : ∀ {xs : List V} {L : List (List F.F)}, RTs K H F xs L → DpAll K H xs (L.map (rowD F))
  | _, _, .nil => .nil
  | _, _, .cons g r => .cons g.dp (RTs.dp r)
end
theorem ok_row {f : Int} {F : Fd f} {l : List F.F} (h : l.length ≤ 1000) : okD 2 (rowD F l) := by
  refine ⟨by rw [List.length_map]; exact h, fun d hd => ?_⟩
  obtain ⟨x, _, rfl⟩ := List.mem_map.mp hd
  refine ⟨(by show 2 ≤ 1000; decide), fun e he => ?_⟩
  rcases List.mem_cons.mp he with rfl | he
  · trivial
  · rw [List.mem_singleton.mp he]
    trivial
theorem ok_rows {f : Int} {F : Fd f} {L : List (List F.F)} (h : L.length ≤ 1000) (hl : ∀ l ∈ L, l.length ≤ 1000) : okD 3 (.list (L.map (rowD F))) := by
  refine ⟨by rw [List.length_map]; exact h, fun d hd => ?_⟩
  obtain ⟨x, hx, rfl⟩ := List.mem_map.mp hd
  exact ok_row (hl x hx)
theorem lay_num (q : Pr) : LayN 1 (numD q) := lay_tup fun d hd => by
  rcases List.mem_cons.mp hd with rfl | hd
  · exact lay_int _
  · rw [List.mem_singleton.mp hd]
    exact lay_int _
theorem lay_row {f : Int} {F : Fd f} (l : List F.F) : LayN 2 (rowD F l) := lay_tup fun d hd => by
  obtain ⟨x, _, rfl⟩ := List.mem_map.mp hd
  exact lay_num _
theorem lay_rows {f : Int} {F : Fd f} (L : List (List F.F)) : LayN 3 (.list (L.map (rowD F))) := lay_list fun d hd => by
  obtain ⟨x, _, rfl⟩ := List.mem_map.mp hd
  exact lay_row _
mutual
theorem eqv_self : ∀ d : PyData, d.canLay0 = true → PyData.eqv d d = true
  | .none, _ => rfl
  | .bool b, _ => by cases b <;> rfl
  | .int i, _ => by show (i == i) = true; simp
  | .str x, h => by show (x == x) = true; simp
  | .list xs, h => eqv_selfs xs h
  | .tuple xs, h => eqv_selfs xs h
  | .dict _, h => by cases h
theorem eqv_selfs : ∀ ds : List PyData, PyData.canLayAll0 ds = true → PyData.eqvAll ds ds = true
  | [], _ => rfl
  | d :: ds, h => by
    have h : (d.canLay0 && PyData.canLayAll0 ds) = true := h
    rw [Bool.and_eq_true] at h
    show (PyData.eqv d d && PyData.eqvAll ds ds) = true
    rw [eqv_self d h.1, eqv_selfs ds h.2]
    rfl
end

open Lin
/-! ## webs on the heap -/
/-- tuples stand -/
def Tk (K : PySem.W.Frag) (H H' : Hp) : Prop := ∀ a xs, SqT K H a xs → SqT K H' a xs
section
variable {K : PySem.W.Frag} {H H1 H2 : Hp}
theorem Tk.refl (K : PySem.W.Frag) (H : Hp) : Tk K H H := fun _ _ h => h
theorem Tk.trans (a : Tk K H H1) (b : Tk K H1 H2) : Tk K H H2 := fun p xs h => b p xs (a p xs h)
theorem Tk.same (e : Same H H1) : Tk K H H1 := fun _ _ h => Same.seqT e h
theorem Tk.put {D : Addr} {zs : List V} {o : HO} (h : H D = some (.lst zs)) : Tk K H (upd H D o) := fun _ _ q => SqT.put q h
theorem Tk.keep {box l : Addr} (hb : BoxAt H box l) (e : Keep box H H1) : Tk K H H1 := fun p xs h2 => by
  obtain ⟨ns, i, x, s, c, b1, _⟩ := hb
  rcases h2 with (h | ⟨o, h⟩) | h
  · refine .inl (.inl (e _ _ (fun z => ?_) h))
    rw [z, b1] at h
    cases h
  · refine .inl (.inr ⟨o, e _ _ (fun z => ?_) h⟩)
    rw [z, b1] at h
    cases h
  · exact .inr h
theorem Tk.stp {box l : Addr} (hb : BoxAt H box l) (e : Stp box l H H1) : Tk K H H1 := Tk.keep hb e.keep
theorem NumV.tk {v : V} {q : Pr} (h : NumV K H v q) (t : Tk K H H1) : NumV K H1 v q := by
  obtain ⟨p, h1, h2⟩ := h
  exact ⟨p, h1, t _ _ h2⟩
theorem NumsV.tk {vs : List V} {qs : List Pr} (h : NumsV K H vs qs) (t : Tk K H H1) : NumsV K H1 vs qs := NumsV.map (fun _ _ h => h.tk t) h
theorem RowT.tk {f : Int} {F : Fd f} {v : V} {l : List F.F} (h : RowT K H F v l) (t : Tk K H H1) : RowT K H1 F v l := by
  obtain ⟨p, xs, h1, h2, h3⟩ := h
  exact ⟨p, xs, h1, t _ _ h2, h3.tk t⟩
theorem RTs.tk {f : Int} {F : Fd f} (t : Tk K H H1) : ∀ {xs : List V} {L : List (List F.F)}, RTs K H F xs L → RTs K H1 F xs L
  | _, _, .nil => .nil
  | _, _, .cons g r => .cons (g.tk t) (RTs.tk t r)
end
/-- over a range: what is made at each turn stands when tuples stand -/
theorem made_range {K : PySem.W.Frag} {lo : Int} {n : Nat} {g : TG} {te : TE} {vs : List Nat} {σ : L2.St} {H1 : Hp} {D : Addr} {Qd : Hp → Prop} (G : Hp → Prop) (E : Nat → Hp → V → Prop)
    (n1 : n ≤ 1000) (g0 : G H1) (gp : ∀ H2 o, G H2 → G (upd H2 D o)) (et : ∀ i H2 H3 v, Tk K H2 H3 → E i H2 v → E i H3 v)
    (hs : ∀ i H2, i < n → G H2 → ∀ Z : VK, (∀ y H5, G H5 → Tk K H2 H5 → (∀ o, H2 D = some o → H5 D = some o) → E i H5 y → Z y H5) → g (.int (lo + i)) (wipe σ vs) H2 fun σ2 H3 => wipe σ2 vs = wipe σ vs ∧ te σ2 H3 Z)
    (hd : ∀ H2 zs, G H2 → H2 D = some (.lst zs) → zs.length = n → (∀ i v, zs[i]? = some v → E i H2 v) → Qd H2) :
    ∃ W : Nat → Nat → Hp → Prop, (∃ m, W 0 m (upd H1 D (.lst []))) ∧ ∀ i m H, W i m H →
      ((Itr lo n).stop i H ∧ Qd H) ∨ ((Itr lo n).go i H ∧ ∃ Nx : Hp → Prop, (∀ H', Nx H' → ∃ m', m' < m ∧ W (i + 1) m' H') ∧ ∀ x H', (Itr lo n).yld i H x H' → g x (wipe σ vs) H' fun σ2 H2 => wipe σ2 vs = wipe σ vs ∧ tYes σ2 H2 fun b H3 =>
        if b = true then te σ2 H3 fun y H4 => ∃ acc, H4 D = some (.lst acc) ∧ acc.length < sizeLine ∧ Nx (upd H4 D (.lst (acc ++ [y]))) else Nx H3) := by
  refine lc_range (fun i H2 => G H2 ∧ ∃ zs, H2 D = some (.lst zs) ∧ zs.length = i ∧ ∀ j v, zs[j]? = some v → E j H2 v) ⟨gp _ _ g0, [], upd_same, rfl, fun j v e => by simp at e⟩ ?_ ?_
  · rintro i H2 hi ⟨g2, zs, hz, lz, hE⟩
    refine hs i H2 hi g2 _ fun y H5 g5 t5 k5 e5 => ?_
    have hz5 := k5 _ hz
    refine ⟨zs, hz5, small1000 (by omega), gp _ _ g5, zs ++ [y], upd_same, by rw [List.length_append, lz]; rfl, fun j v e => ?_⟩
    have tp : Tk K H5 (upd H5 D (.lst (zs ++ [y]))) := Tk.put hz5
    by_cases hj : j < zs.length
    · rw [List.getElem?_append_left hj] at e
      exact et _ _ _ _ tp (et _ _ _ _ t5 (hE j v e))
    · by_cases hj2 : j = zs.length
      · subst hj2
        rw [List.getElem?_append_right (Nat.le_refl _), Nat.sub_self] at e
        have e := Option.some.inj e
        subst e
        rw [lz]
        exact et _ _ _ _ tp e5
      · rw [List.getElem?_eq_none (by rw [List.length_append]; show zs.length + 1 ≤ j; omega)] at e
        cases e
  · rintro H2 ⟨g2, zs, hz, lz, hE⟩
    exact hd H2 zs g2 hz lz hE
/-- the box of draws beside a list that is made -/
def GB (box l : Addr) (H1 H2 : Hp) : Prop := BoxAt H2 box l ∧ Keep box H1 H2
theorem GB.put {box l D : Addr} {H1 H2 : Hp} {o : HO} (hb : BoxAt H1 box l) (hD : H1 D = none) (h : GB box l H1 H2) : GB box l H1 (upd H2 D o) := by
  have s := Stp.put (o := o) ⟨h.2, h.1⟩ hb hD
  exact ⟨s.box, s.keep⟩
theorem GB.stp {box l : Addr} {H1 H2 : Hp} (h : GB box l H1 H2) : Stp box l H1 H2 := ⟨h.2, h.1⟩
theorem GB.go {box l : Addr} {H1 H2 H3 : Hp} (h : GB box l H1 H2) (s : Stp box l H2 H3) : GB box l H1 H3 := ⟨s.box, h.2.trans s.keep⟩
/-- a table: a tuple of rows -/
def TabT (K : PySem.W.Frag) (H : Hp) {f : Int} (F : Fd f) (v : V) (T : List (List F.F)) : Prop := ∃ (a : Addr) (xs : List V), v = .ref a ∧ SqT K H a xs ∧ RTs K H F xs T
theorem TabT.tk {K : PySem.W.Frag} {H H1 : Hp} {f : Int} {F : Fd f} {v : V} {T : List (List F.F)} (h : TabT K H F v T) (t : Tk K H H1) : TabT K H1 F v T := by
  obtain ⟨p, xs, h1, h2, h3⟩ := h
  exact ⟨p, xs, h1, t _ _ h2, h3.tk t⟩
/-- a row of a web's table -/
def RowS (K : PySem.W.Frag) (H : Hp) {f : Int} (F : Fd f) (wide : Nat) (v : V) : Prop := ∃ l : List F.F, RowT K H F v l ∧ l.length = wide ∧ ∀ x ∈ l, S99 (F.enc x)
theorem RowS.tk {K : PySem.W.Frag} {H H1 : Hp} {f : Int} {F : Fd f} {v : V} {w : Nat} (h : RowS K H F w v) (t : Tk K H H1) : RowS K H1 F w v := by
  obtain ⟨l, h1, h2⟩ := h
  exact ⟨l, h1.tk t, h2⟩
structure TabOk {f : Int} (F : Fd f) (T : List (List F.F)) (room wide : Nat) : Prop where
  len : T.length = room
  wide : ∀ l ∈ T, l.length = wide
  sm : ∀ l ∈ T, ∀ x ∈ l, S99 (F.enc x)
theorem tab_of {K : PySem.W.Frag} {H : Hp} {f : Int} {F : Fd f} {w : Nat} : ∀ {zs : List V}, (∀ (i : Nat) (v : V), zs[i]? = some v → RowS K H F w v) → ∃ T : List (List F.F), RTs K H F zs T ∧ TabOk F T zs.length w
  | [], _ => ⟨[], .nil, rfl, (fun l h => by cases h), (fun l h => by cases h)⟩
  | z :: zs, h => by
    obtain ⟨l, h1, h2, h3⟩ := h 0 z rfl
    obtain ⟨T, g1, g2, g3, g4⟩ := tab_of (zs := zs) fun i v e => h (i + 1) v (by simpa using e)
    refine ⟨l :: T, .cons h1 g1, by rw [List.length_cons, g2]; rfl, fun m hm => ?_, fun m hm => ?_⟩
    · rcases List.mem_cons.mp hm with rfl | hm
      · exact h2
      · exact g3 m hm
    · rcases List.mem_cons.mp hm with rfl | hm
      · exact h3
      · exact g4 m hm
/-- a row out of numbers -/
def NumS (K : PySem.W.Frag) (H : Hp) (f : Int) (v : V) : Prop := ∃ q, NumV K H v q ∧ IsN f q ∧ S99 q
theorem NumS.tk {K : PySem.W.Frag} {H H1 : Hp} {f : Int} {v : V} (h : NumS K H f v) (t : Tk K H H1) : NumS K H1 f v := by
  obtain ⟨q, h1, h2⟩ := h
  exact ⟨q, h1.tk t, h2⟩
theorem row_of {K : PySem.W.Frag} {H : Hp} {f : Int} {F : Fd f} : ∀ {zs : List V}, (∀ (i : Nat) (v : V), zs[i]? = some v → NumS K H f v) → ∃ l : List F.F, NumsV K H zs (l.map F.enc) ∧ l.length = zs.length ∧ ∀ x ∈ l, S99 (F.enc x)
  | [], _ => ⟨[], .nil, rfl, (fun l h => by cases h)⟩
  | z :: zs, h => by
    obtain ⟨q, h1, h2, h3⟩ := h 0 z rfl
    obtain ⟨x, ex⟩ := F.sur q h2
    subst ex
    obtain ⟨l, g1, g2, g3⟩ := row_of (F := F) (zs := zs) fun i v e => h (i + 1) v (by simpa using e)
    refine ⟨x :: l, .cons h1 g1, by rw [List.length_cons, g2]; rfl, fun y hy => ?_⟩
    rcases List.mem_cons.mp hy with rfl | hy
    · exact h3
    · exact g3 y hy
theorem num01 {K : PySem.W.Frag} {H : Hp} {p : Addr} {f : Int} (hf : IsF f) (h : SqT K H p [.int 0, .int 1]) : NumS K H f (.ref p) := by
  refine ⟨(0, 1), ⟨p, rfl, h⟩, ?_, by decide, by decide⟩
  obtain ⟨F⟩ := fd_ex hf
  letI := F.fld
  have e := F.num 0
  rwa [F.zero] at e
theorem num11 {K : PySem.W.Frag} {H : Hp} {p : Addr} {f : Int} (hf : IsF f) (h : SqT K H p [.int 1, .int 1]) : NumS K H f (.ref p) := by
  refine ⟨(1, 1), ⟨p, rfl, h⟩, ?_, by decide, by decide⟩
  obtain ⟨F⟩ := fd_ex hf
  letI := F.fld
  have e := F.num 1
  rwa [F.one] at e
def rTupOf (K : PySem.W.Frag) : List V → Hp → VK → Prop := fun xs H Q => ∃ p ys, xs = [.ref p] ∧ ((SqL K H p ys ∧ ∀ l : Addr, H l = none → Q (.ref l) (upd H l (.tup ys))) ∨ (SqT K H p ys ∧ Q (.ref p) H))
theorem cr_tupOf {X : Cx} : CallR X (.type "tuple") (rTupOf X.K) := call_tuple_of

open Lin
def spEnd (K : PySem.W.Frag) : Sp := fun vs H Q _ => ∃ (box l : Addr) (f : Int) (r w : Nat) (F : Fd f), vs = [.ref box, .int f, .int (r : Nat), .int (w : Nat)] ∧ BoxAt H box l ∧ IsF f ∧ r ≤ 3 ∧ w ≤ 3 ∧ ∀ H' v (T : List (List F.F)), Stp box l H H' → TabT K H' F v T → TabOk F T r w → Q v H'
theorem len__law_end_table {K vs H Q E} (h : spEnd K vs H Q E) : vs.length = (["_law_box", "_law_field_here", "_law_room", "_law_wide"] : List Str).length := by
  obtain ⟨box, l, f, r, w, F, rfl, _⟩ := h
  rfl
theorem d__law_end_table {P : Program} {w : World} {K : PySem.W.Frag} {mg : Str → Option Value} {base : Heap} (R : Raw K mg "_law_end_table" s__law_end_table) (B : Bn mg) (D__law_draw : Def P w K mg base "_law_draw" 1 ["_law_box", "_law_many"] (spDraw)) (D__law_number : Def P w K mg base "_law_number" 3 ["_law_box", "_law_field_here"] (spNumber K)) (D__law_row : Def P w K mg base "_law_row" 4 ["_law_box", "_law_field_here", "_law_width"] (spLRow K)) (D__law_nothing : Def P w K mg base "_law_nothing" 1 ["_law_width"] (spNothing K)) : Def P w K mg base "_law_end_table" 5 ["_law_box", "_law_field_here", "_law_room", "_law_wide"] (spEnd K) := by
  obtain ⟨f, fd, F, m⟩ := R
  obtain ⟨f__law_draw, fd__law_draw, G__law_draw, m__law_draw, k__law_draw, b__law_draw⟩ := D__law_draw
  obtain ⟨f__law_number, fd__law_number, G__law_number, m__law_number, k__law_number, b__law_number⟩ := D__law_number
  obtain ⟨f__law_row, fd__law_row, G__law_row, m__law_row, k__law_row, b__law_row⟩ := D__law_row
  obtain ⟨f__law_nothing, fd__law_nothing, G__law_nothing, m__law_nothing, k__law_nothing, b__law_nothing⟩ := D__law_nothing
  refine ⟨f, fd, F.ok sc__law_end_table (fun vs H Q E h => ?_) (fun cdv A outer s H vs Q E hr h => ?_), m, F.kp, F.binds (ps := ["_law_box", "_law_field_here", "_law_room", "_law_wide"]) fun _ _ _ _ _ _ us hl => match us, hl with | [_, _, _, _], _ => rfl⟩
  · exact len__law_end_table h

  · obtain ⟨box, l, a, r, w, F, rfl, hb, hf, r3, w3, q⟩ := h
    refine ⟨_, (pss_cons (ps_set (i := 4) sc__law_end_table.nd rfl (Or.inl rfl) (pe_call G__law_draw (hr.mono (by omega)) (by rfl) m__law_draw k__law_draw b__law_draw .nil pass0 (pa_cons (pv 0) (pa_cons pe_int pa_nil)))) (pss_cons (ps_set (i := 5) sc__law_end_table.nd rfl (Or.inr rfl) (pe_ix ix_list (pe_lst (pa_cons (pe_tup (pa_cons pe_int (pa_cons pe_int pa_nil))) (pa_cons (pe_tup (pa_cons pe_int (pa_cons pe_int pa_nil))) (pa_cons (pe_call G__law_number (hr.mono (by omega)) (by rfl) m__law_number k__law_number b__law_number .nil pass0 (pa_cons (pv 0) (pa_cons (pv 1) pa_nil))) pa_nil)))) (pe_call G__law_draw (hr.mono (by omega)) (by rfl) m__law_draw k__law_draw b__law_draw .nil pass0 (pa_cons (pv 0) (pa_cons pe_int pa_nil))) (fun _ _ => rfl))) (pss_cons (ps_if (pt_cmpR op_eq (pv 4) pe_int (nomark _)) (pss_one (ps_ret (pe_callTy call_tuple_of (by rfl) B.tuple (by decide +kernel) (pa_cons (pe_lc (own := [("_law_k", 6)]) (g := gName 6) (tt := tYes) rfl sc__law_end_table.nd (pi_range1 (by rfl) B.range (pa_cons (pv 2) pa_nil)) (blkOk_by (N := ["_law_box", "_law_field_here", "_law_room", "_law_wide", "_law_pick", "_law_factor", "_law_k", "_law_at"]) (sc := defScope s__law_end_table) (by decide +kernel)) (fun _ _ _ _ _ => pg_name (i := 6) sc__law_end_table.nd rfl (Or.inl rfl)) (fun _ _ _ _ _ => pts_nil) (fun _ _ _ _ _ => (pe_call G__law_nothing (hr.mono (by omega)) (by rfl) m__law_nothing k__law_nothing b__law_nothing .nil pass0 (pa_cons (pv 3) pa_nil)))) pa_nil)))) pss_nil) (pss_cons (ps_if (pt_cmpR op_lt (pv 4) pe_int (nomark _)) (pss_one (ps_ret (pe_callTy call_tuple_of (by rfl) B.tuple (by decide +kernel) (pa_cons (pe_lc (own := [("_law_k", 6)]) (g := gName 6) (tt := tYes) rfl sc__law_end_table.nd (pi_range1 (by rfl) B.range (pa_cons (pv 2) pa_nil)) (blkOk_by (N := ["_law_box", "_law_field_here", "_law_room", "_law_wide", "_law_pick", "_law_factor", "_law_k", "_law_at"]) (sc := defScope s__law_end_table) (by decide +kernel)) (fun _ _ _ _ _ => pg_name (i := 6) sc__law_end_table.nd rfl (Or.inr rfl)) (fun _ _ _ _ _ => pts_nil) (fun _ _ _ _ _ => (pe_callTy (show CallR _ (.type "tuple") (rTupOf K) from cr_tupOf) (by rfl) B.tuple (by decide +kernel) (pa_cons (pe_lc (own := [("_law_at", 7)]) (g := gName 7) (tt := tYes) rfl sc__law_end_table.nd (pi_range1 (by rfl) B.range (pa_cons (pv 3) pa_nil)) (blkOk_by (N := ["_law_box", "_law_field_here", "_law_room", "_law_wide", "_law_pick", "_law_factor", "_law_k", "_law_at"]) (sc := { kind := PySem.ScopeKind.function, names := [ (PySem.Str.ofString ".0", PySem.NameKind.local), (PySem.Str.ofString "_law_k", PySem.NameKind.cell), (PySem.Str.ofString "tuple", PySem.NameKind.globalImplicit), (PySem.Str.ofString "range", PySem.NameKind.globalImplicit), (PySem.Str.ofString "_law_factor", PySem.NameKind.cell), (PySem.Str.ofString "_law_wide", PySem.NameKind.cell)], isGenerator := false, isCoroutine := false, more := [] : PySem.Scope }) (by decide +kernel)) (fun _ _ _ _ _ => pg_name (i := 7) sc__law_end_table.nd rfl (Or.inl rfl)) (fun _ _ _ _ _ => pts_nil) (fun _ _ _ _ _ => (pe_ifExp (pt_cmpR op_eq (pv 6) (pv 7) (nomark _)) (pv 5) (pe_tup (pa_cons pe_int (pa_cons pe_int pa_nil)))))) pa_nil)))) pa_nil)))) pss_nil) (pss_one (ps_ret (pe_callTy call_tuple_of (by rfl) B.tuple (by decide +kernel) (pa_cons (pe_lc (own := [("_law_k", 6)]) (g := gName 6) (tt := tYes) rfl sc__law_end_table.nd (pi_range1 (by rfl) B.range (pa_cons (pv 2) pa_nil)) (blkOk_by (N := ["_law_box", "_law_field_here", "_law_room", "_law_wide", "_law_pick", "_law_factor", "_law_k", "_law_at"]) (sc := defScope s__law_end_table) (by decide +kernel)) (fun _ _ _ _ _ => pg_name (i := 6) sc__law_end_table.nd rfl (Or.inl rfl)) (fun _ _ _ _ _ => pts_nil) (fun _ _ _ _ _ => (pe_call G__law_row (hr.mono (by omega)) (by rfl) m__law_row k__law_row b__law_row .nil pass0 (pa_cons (pv 0) (pa_cons (pv 1) (pa_cons (pv 3) pa_nil)))))) pa_nil)))))))), ?_⟩
    refine ⟨_, rfl, box, l, _, rfl, hb, by decide, by decide +kernel, fun H1 pk st1 pk0 pk1 => ?_⟩
    refine ⟨(by show 2 ≤ sizeLine; decide), fun p0 n0 => ?_⟩
    have s0 := same_new (o := .tup [.int 1, .int 1]) n0
    refine ⟨(by show 2 ≤ sizeLine; decide), fun p1 n1 => ?_⟩
    have s1 := same_new (o := .tup [.int 1, .int 1]) n1
    have st2 := (st1.same s0).same s1
    refine ⟨_, rfl, _, rfl, box, l, a, rfl, st2.box, hf, fun H3 v3 q3 st3 hv3 hN3 hS3 => ?_⟩
    refine ⟨(by show 3 ≤ sizeLine; decide), fun z nz => ?_⟩
    have sz := same_new (o := .lst [.ref p0, .ref p1, v3]) nz
    have st3' := (st2.trans st3).same sz
    refine ⟨_, rfl, box, l, _, rfl, st3'.box, by decide, by decide +kernel, fun H4 r4 st4 r40 r41 => ?_⟩
    have e0 : SqT K H4 p0 [.int 1, .int 1] := (Tk.stp st3'.box st4) _ _ ((Tk.same sz) _ _ ((Tk.stp st2.box st3) _ _ (Tk.same s1 _ _ (SqT.of upd_same))))
    have e1 : SqT K H4 p1 [.int 1, .int 1] := (Tk.stp st3'.box st4) _ _ ((Tk.same sz) _ _ ((Tk.stp st2.box st3) _ _ (SqT.of upd_same)))
    have hz : SqL K H4 z [.ref p0, .ref p1, v3] := SqL.keep (SqL.of upd_same) ((st2.trans st3).box.ne nz) st4.keep
    have hv3 : NumS K H4 a v3 := ⟨q3, hv3.tk ((Tk.same sz).trans (Tk.stp st3'.box st4)), hN3, hS3⟩
    have st := st3'.trans st4
    have hb4 := st4.box
    obtain ⟨u, hu, hus⟩ : ∃ u, atI [V.ref p0, .ref p1, v3] r4 = some u ∧ NumS K H4 a u := by
      have : r4 = 0 ∨ r4 = 1 ∨ r4 = 2 := by omega
      rcases this with rfl | rfl | rfl
      · exact ⟨_, rfl, num11 hf e0⟩
      · exact ⟨_, rfl, num11 hf e1⟩
      · exact ⟨_, rfl, hv3⟩
    refine ⟨z, _, _, u, rfl, rfl, hz, hu, ?_⟩
    clear hu hz e0 e1 hv3
    have fin : ∀ {H5 : Hp} {zs : List V}, GB box l H4 H5 → zs.length = r → (∀ (i : Nat) v, zs[i]? = some v → RowS K H5 F w v) → ∀ p, H5 p = none → Q (.ref p) (upd H5 p (.tup zs)) := fun {H5 zs} g lz h p hp => by
      obtain ⟨T, hT, ok⟩ := tab_of (F := F) h
      rw [lz] at ok
      have sp := same_new (o := .tup zs) hp
      exact q _ _ T ((st.trans g.stp).same sp) ⟨p, zs, rfl, SqT.of upd_same, hT.same sp⟩ ok
    refine ⟨_, rfl, rfl, _, rfl, ite2 (fun e => ?_) (fun e => ?_)⟩
    · refine ⟨_, rfl, (r : Nat), rfl, by omega, by omega, fun D hD => ?_⟩
      refine made_range (K := K) (n := ((r : Nat) : Int).toNat) (GB box l H4) (fun _ H v => RowS K H F w v) (by omega) ⟨hb4, Keep.refl _ _⟩ (fun H2 o g => g.put hb4 hD) (fun i H2 H3 v t h => h.tk t) ?_ ?_
      · intro i H2 hi g Z hZ
        refine ⟨rfl, _, rfl, w, rfl, by omega, fun H3 v s hv => hZ v H3 (g.go ⟨Keep.of s, g.1.same s⟩) (Tk.same s) (fun o e => s _ _ e) ?_⟩
        letI := F.fld
        refine ⟨_, hv F, List.length_replicate, fun x hx => ?_⟩
        rw [List.eq_of_mem_replicate hx, F.zero]
        exact ⟨by decide, by decide⟩
      · intro H2 zs g hz lz hE
        exact ⟨D, zs, rfl, .inl ⟨SqL.of hz, fin g (by omega) hE⟩⟩
    refine ⟨_, rfl, _, _, rfl, rfl, _, rfl, ite2 (fun e => ?_) (fun e => ?_)⟩
    · refine ⟨_, rfl, (r : Nat), rfl, by omega, by omega, fun D hD => ?_⟩
      refine made_range (K := K) (n := ((r : Nat) : Int).toNat) (GB box l H4) (fun _ H v => RowS K H F w v) (by omega) ⟨hb4, Keep.refl _ _⟩ (fun H2 o g => g.put hb4 hD) (fun i H2 H3 v t h => h.tk t) ?_ ?_
      · intro i H2 hi g Z hZ
        refine ⟨rfl, _, rfl, (w : Nat), rfl, by omega, by omega, fun D2 hD2 => ?_⟩
        refine made_range (K := K) (n := ((w : Nat) : Int).toNat) (fun H3 => Same H2 H3) (fun _ H v => NumS K H a v) (by omega) (Same.refl H2) (fun H3 o s b x e => by rw [upd_ne (ne_of_none e hD2)]; exact s b x e) (fun i H2 H3 v t h => h.tk t) ?_ ?_
        · intro j H3 hj s3 Z2 hZ2
          refine ⟨rfl, ?_⟩
          refine ⟨_, rfl, _, rfl, rfl, _, rfl, ite2 (fun e => ?_) (fun e => ?_)⟩
          · exact ⟨_, rfl, hZ2 u H3 s3 (Tk.refl K H3) (fun o e => e) (hus.tk ((Tk.keep hb4 g.2).trans (Tk.same s3)))⟩
          · refine ⟨(by show 2 ≤ sizeLine; decide), fun p hp => ?_⟩
            have sp := same_new (o := .tup [.int 0, .int 1]) hp
            exact hZ2 _ _ (s3.trans sp) (Tk.same sp) (fun o e => sp _ _ e) (num01 hf (SqT.of upd_same))
        · intro H3 zs s3 hz lz hE
          refine ⟨D2, zs, rfl, .inl ⟨SqL.of hz, fun p hp => ?_⟩⟩
          have sp := s3.trans (same_new (o := .tup zs) hp)
          obtain ⟨ls, h1, h2, h3⟩ := row_of (F := F) hE
          exact hZ _ _ (g.go ⟨Keep.of sp, g.1.same sp⟩) (Tk.same sp) (fun o e => sp _ _ e) ⟨ls, ⟨p, zs, rfl, SqT.of upd_same, NumsV.same (same_new hp) h1⟩, by omega, h3⟩
      · intro H2 zs g hz lz hE
        exact ⟨D, zs, rfl, .inl ⟨SqL.of hz, fin g (by omega) hE⟩⟩
    · refine ⟨_, rfl, (r : Nat), rfl, by omega, by omega, fun D hD => ?_⟩
      refine made_range (K := K) (n := ((r : Nat) : Int).toNat) (GB box l H4) (fun _ H v => RowS K H F w v) (by omega) ⟨hb4, Keep.refl _ _⟩ (fun H2 o g => g.put hb4 hD) (fun i H2 H3 v t h => h.tk t) ?_ ?_
      · intro i H2 hi g Z hZ
        refine ⟨rfl, _, rfl, _, rfl, _, rfl, box, l, a, w, F, rfl, g.1, hf, by omega, fun H3 v ls st hv hl hs => hZ v H3 (g.go st) (Tk.stp g.1 st) (fun o e => st.keep _ _ (hb4.ne hD) e) ⟨ls, hv, hl, hs⟩⟩
      · intro H2 zs g hz lz hE
        exact ⟨D, zs, rfl, .inl ⟨SqL.of hz, fin g (by omega) hE⟩⟩

open Lin
/-! ## ties and webs -/
structure Tie (α : Type) where
  one : Nat
  other : Nat
  room : Nat
  fst : List (List α)
  snd : List (List α)
structure TieOk {f : Int} (F : Fd f) (sz : List Nat) (t : Tie F.F) : Prop where
  one : t.one < sz.length
  other : t.other < sz.length
  room : t.room ≤ 3
  fst : TabOk F t.fst t.room (sz.getD t.one 0)
  snd : TabOk F t.snd t.room (sz.getD t.other 0)
structure WebOk {f : Int} (F : Fd f) (sz : List Nat) (ts : List (Tie F.F)) : Prop where
  len0 : 1 ≤ sz.length
  len8 : sz.length ≤ 8
  sz3 : ∀ n ∈ sz, n ≤ 3
  len12 : ts.length ≤ 12
  ties : ∀ t ∈ ts, TieOk F sz t
def intsV (sz : List Nat) : List V := sz.map fun n => V.int (n : Nat)
def TieT (K : PySem.W.Frag) (H : Hp) {f : Int} (F : Fd f) (v : V) (t : Tie F.F) : Prop := ∃ (a : Addr) (x y : V), v = .ref a ∧ SqT K H a [.int (t.one : Nat), .int (t.other : Nat), .int (t.room : Nat), x, y] ∧ TabT K H F x t.fst ∧ TabT K H F y t.snd
def TiesT (K : PySem.W.Frag) (H : Hp) {f : Int} (F : Fd f) (xs : List V) (ts : List (Tie F.F)) : Prop := Paired (fun v t => TieT K H F v t) xs ts
def WebT (K : PySem.W.Frag) (H : Hp) {f : Int} (F : Fd f) (v : V) (sz : List Nat) (ts : List (Tie F.F)) : Prop := ∃ (a p q : Addr) (xs : List V), v = .ref a ∧ SqT K H a [.int f, .ref p, .ref q] ∧ SqT K H p (intsV sz) ∧ SqT K H q xs ∧ TiesT K H F xs ts
section
variable {K : PySem.W.Frag} {H H1 : Hp} {f : Int} {F : Fd f}
theorem TieT.tk {v : V} {t : Tie F.F} (h : TieT K H F v t) (e : Tk K H H1) : TieT K H1 F v t := by
  obtain ⟨a, x, y, h1, h2, h3, h4⟩ := h
  exact ⟨a, x, y, h1, e _ _ h2, h3.tk e, h4.tk e⟩
theorem TiesT.tk (e : Tk K H H1) : ∀ {xs : List V} {ts : List (Tie F.F)}, TiesT K H F xs ts → TiesT K H1 F xs ts
  | _, _, .nil => .nil
  | _, _, .cons g r => .cons (g.tk e) (TiesT.tk e r)
theorem TiesT.snoc {v : V} {t : Tie F.F} (h : TieT K H F v t) : ∀ {xs : List V} {ts : List (Tie F.F)}, TiesT K H F xs ts → TiesT K H F (xs ++ [v]) (ts ++ [t])
  | _, _, .nil => .cons h .nil
  | _, _, .cons g r => .cons g (TiesT.snoc h r)
theorem TiesT.len {xs : List V} {ts : List (Tie F.F)} (h : TiesT K H F xs ts) : xs.length = ts.length := Paired.length h
theorem TiesT.pickV : ∀ {xs : List V} {ts : List (Tie F.F)} {i : Nat} {x : V}, TiesT K H F xs ts → xs[i]? = some x → ∃ t, ts[i]? = some t ∧ TieT K H F x t
  | _, _, i, x, .nil, e => by simp at e
  | _, _, 0, x, .cons h t, e => by
    have e := Option.some.inj ((List.getElem?_cons_zero ..).symm.trans e)
    subst e
    exact ⟨_, rfl, h⟩
  | _, _, i + 1, x, .cons h t, e => by
    obtain ⟨u, h1, h2⟩ := TiesT.pickV (i := i) (x := x) t (by simpa using e)
    exact ⟨u, by simpa using h1, h2⟩
theorem WebT.tk {v : V} {sz : List Nat} {ts : List (Tie F.F)} (h : WebT K H F v sz ts) (e : Tk K H H1) : WebT K H1 F v sz ts := by
  obtain ⟨a, p, q, xs, h1, h2, h3, h4, h5⟩ := h
  exact ⟨a, p, q, xs, h1, e _ _ h2, e _ _ h3, e _ _ h4, h5.tk e⟩
theorem ints_of {m : Nat} : ∀ {zs : List V}, (∀ (i : Nat) (v : V), zs[i]? = some v → ∃ n : Nat, v = .int (n : Nat) ∧ n ≤ m) → ∃ sz : List Nat, zs = intsV sz ∧ ∀ n ∈ sz, n ≤ m
  | [], _ => ⟨[], rfl, fun n h => by cases h⟩
  | z :: zs, h => by
    obtain ⟨n, rfl, hn⟩ := h 0 z rfl
    obtain ⟨sz, e, g⟩ := ints_of (zs := zs) fun i v e => h (i + 1) v (by simpa using e)
    refine ⟨n :: sz, by rw [e]; rfl, fun k hk => ?_⟩
    rcases List.mem_cons.mp hk with rfl | hk
    · exact hn
    · exact g k hk
theorem ints_at {sz : List Nat} {i : Nat} (h : i < sz.length) : atI (intsV sz) (i : Nat) = some (.int ((sz.getD i 0 : Nat) : Int)) := by
  refine atI_nat (j := i) ?_
  unfold intsV
  rw [List.getElem?_map, List.getElem?_eq_getElem h]
  show some (V.int ((sz[i] : Nat) : Int)) = _
  rw [List.getD_eq_getElem?_getD, List.getElem?_eq_getElem h]
  rfl
theorem getD_le {sz : List Nat} {m i : Nat} (h : ∀ n ∈ sz, n ≤ m) : sz.getD i 0 ≤ m := by
  rw [List.getD_eq_getElem?_getD]
  cases e : sz[i]? with
  | none => exact Nat.zero_le _
  | some x => exact h x (List.mem_of_getElem? e)
theorem Stp.free {box l D : Addr} (s : Stp box l H H1) (h : H1 D = none) : H D = none := by
  cases e : H D with
  | none => rfl
  | some o =>
    have := s.keep _ _ (s.box.ne h) e
    rw [h] at this
    cases this
end
def spWeb (K : PySem.W.Frag) : Sp := fun vs H Q _ => ∃ (box l : Addr) (f : Int) (mp mt mr : Nat) (F : Fd f), vs = [.ref box, .int f, .int (mp : Nat), .int (mt : Nat), .int (mr : Nat)] ∧ BoxAt H box l ∧ IsF f ∧ 1 ≤ mp ∧ mp ≤ 8 ∧ mt ≤ 12 ∧ mr ≤ 3 ∧ ∀ H' v (sz : List Nat) (ts : List (Tie F.F)), Stp box l H H' → WebT K H' F v sz ts → WebOk F sz ts → Q v H'
theorem len__law_web {K vs H Q E} (h : spWeb K vs H Q E) : vs.length = (["_law_box", "_law_field_here", "_law_most_places", "_law_most_ties", "_law_most_room"] : List Str).length := by
  obtain ⟨box, l, f, mp, mt, mr, F, rfl, _⟩ := h
  rfl
theorem len__law_stiff_web {K vs H Q E} (h : spWeb K vs H Q E) : vs.length = (["_law_box", "_law_field_here", "_law_most_places", "_law_most_ties", "_law_most_room"] : List Str).length := len__law_web h

open Lin
theorem d__law_web {P : Program} {w : World} {K : PySem.W.Frag} {mg : Str → Option Value} {base : Heap} (R : Raw K mg "_law_web" s__law_web) (B : Bn mg) (D__law_draw : Def P w K mg base "_law_draw" 1 ["_law_box", "_law_many"] (spDraw)) (D__law_end_table : Def P w K mg base "_law_end_table" 5 ["_law_box", "_law_field_here", "_law_room", "_law_wide"] (spEnd K)) : Def P w K mg base "_law_web" 6 ["_law_box", "_law_field_here", "_law_most_places", "_law_most_ties", "_law_most_room"] (spWeb K) := by
  obtain ⟨f, fd, F, m⟩ := R
  obtain ⟨f__law_draw, fd__law_draw, G__law_draw, m__law_draw, k__law_draw, b__law_draw⟩ := D__law_draw
  obtain ⟨f__law_end_table, fd__law_end_table, G__law_end_table, m__law_end_table, k__law_end_table, b__law_end_table⟩ := D__law_end_table
  refine ⟨f, fd, F.ok sc__law_web (fun vs H Q E h => ?_) (fun cdv A outer s H vs Q E hr h => ?_), m, F.kp, F.binds (ps := ["_law_box", "_law_field_here", "_law_most_places", "_law_most_ties", "_law_most_room"]) fun _ _ _ _ _ _ us hl => match us, hl with | [_, _, _, _, _], _ => rfl⟩
  · exact len__law_web h

  · obtain ⟨box, l, a, mp, mt, mr, F, rfl, hb, hf, p1, p8, t12, r3, q⟩ := h
    refine ⟨_, (pss_cons (ps_set (i := 5) sc__law_web.nd rfl (Or.inl rfl) (pe_op op_add pe_int (pe_call G__law_draw (hr.mono (by omega)) (by rfl) m__law_draw k__law_draw b__law_draw .nil pass0 (pa_cons (pv 0) (pa_cons (pv 2) pa_nil))))) (pss_cons (ps_set (i := 6) sc__law_web.nd rfl (Or.inr rfl) (pe_call G__law_draw (hr.mono (by omega)) (by rfl) m__law_draw k__law_draw b__law_draw .nil pass0 (pa_cons (pv 0) (pa_cons (pe_op op_add (pv 4) pe_int) pa_nil)))) (pss_cons (ps_set (i := 7) sc__law_web.nd rfl (Or.inr rfl) (pe_call G__law_draw (hr.mono (by omega)) (by rfl) m__law_draw k__law_draw b__law_draw .nil pass0 (pa_cons (pv 0) (pa_cons pe_int pa_nil)))) (pss_cons (ps_setLc (i := 9) (own := [("_law_k", 8)]) (g := gName 8) (tt := tYes) rfl sc__law_web.nd rfl rfl (sw_true rfl rfl rfl (by decide +kernel)) (pi_range1 (by rfl) B.range (pa_cons (pv 5) pa_nil)) (blkOk_by (N := ["_law_box", "_law_field_here", "_law_most_places", "_law_most_ties", "_law_most_room", "_law_many", "_law_base", "_law_plain", "_law_k", "_law_sizes", "_law_ties", "_law_one", "_law_other", "_law_room", "_law_first"]) (sc := defScope s__law_web) (by decide +kernel)) (fun _ _ _ _ _ => pg_name (i := 8) sc__law_web.nd rfl (Or.inl rfl)) (fun _ _ _ _ _ => pts_nil) (fun _ _ _ _ _ => (pe_ifExp (pt_cmpR op_eq (pv 7) pe_int (nomark _)) (pv 6) (pe_call G__law_draw (hr.mono (by omega)) (by rfl) m__law_draw k__law_draw b__law_draw .nil pass0 (pa_cons (pv 0) (pa_cons (pe_op op_add (pv 4) pe_int) pa_nil)))))) (pss_cons (ps_set (i := 10) sc__law_web.nd rfl (Or.inl rfl) (pe_lst pa_nil)) (pss_cons (ps_for PassesOwn.never rfl (pi_range1 (by rfl) B.range (pa_cons (pe_call G__law_draw (hr.mono (by omega)) (by rfl) m__law_draw k__law_draw b__law_draw .nil pass0 (pa_cons (pv 0) (pa_cons (pe_op op_add (pv 3) pe_int) pa_nil))) pa_nil)) (pg_name (i := 8) sc__law_web.nd rfl (Or.inl rfl)) (pss_cons (ps_set (i := 11) sc__law_web.nd rfl (Or.inl rfl) (pe_call G__law_draw (hr.mono (by omega)) (by rfl) m__law_draw k__law_draw b__law_draw .nil pass0 (pa_cons (pv 0) (pa_cons (pv 5) pa_nil)))) (pss_cons (ps_set (i := 12) sc__law_web.nd rfl (Or.inl rfl) (pe_call G__law_draw (hr.mono (by omega)) (by rfl) m__law_draw k__law_draw b__law_draw .nil pass0 (pa_cons (pv 0) (pa_cons (pv 5) pa_nil)))) (pss_cons (ps_set (i := 13) sc__law_web.nd rfl (Or.inl rfl) (pe_ix ix_list (pe_lst (pa_cons (pv 6) (pa_cons (pv 6) (pa_cons (pe_call G__law_draw (hr.mono (by omega)) (by rfl) m__law_draw k__law_draw b__law_draw .nil pass0 (pa_cons (pv 0) (pa_cons (pe_op op_add (pv 4) pe_int) pa_nil))) pa_nil)))) (pe_call G__law_draw (hr.mono (by omega)) (by rfl) m__law_draw k__law_draw b__law_draw .nil pass0 (pa_cons (pv 0) (pa_cons pe_int pa_nil))) (fun _ _ => rfl))) (pss_cons (ps_set (i := 14) sc__law_web.nd rfl (Or.inl rfl) (pe_call G__law_end_table (hr.mono (by omega)) (by rfl) m__law_end_table k__law_end_table b__law_end_table .nil pass0 (pa_cons (pv 0) (pa_cons (pv 1) (pa_cons (pv 13) (pa_cons (pe_ix ix_list (pv 9) (pv 11) (fun _ _ => rfl)) pa_nil)))))) (pss_one (ps_expr (pe_bm PySem.F.plainAttrs_list PySem.F.slot_list_append PySem.F.type_list_append mt_append (pv 10) (pa_cons (pe_tup (pa_cons (pv 11) (pa_cons (pv 12) (pa_cons (pv 13) (pa_cons (pv 14) (pa_cons (pe_call G__law_end_table (hr.mono (by omega)) (by rfl) m__law_end_table k__law_end_table b__law_end_table .nil pass0 (pa_cons (pv 0) (pa_cons (pv 1) (pa_cons (pv 13) (pa_cons (pe_ix ix_list (pv 9) (pv 12) (fun _ _ => rfl)) pa_nil))))) pa_nil)))))) pa_nil))))))))) (pss_one (ps_ret (pe_tup (pa_cons (pv 1) (pa_cons (pe_callTy call_tuple_of (by rfl) B.tuple (by decide +kernel) (pa_cons (pv 9) pa_nil)) (pa_cons (pe_callTy call_tuple_of (by rfl) B.tuple (by decide +kernel) (pa_cons (pv 10) pa_nil)) pa_nil)))))))))))), ?_⟩
    refine ⟨_, rfl, _, rfl, box, l, _, rfl, hb, by omega, log_small (by omega) (by omega), fun H1 ma st1 ma0 ma1 => ?_⟩
    obtain ⟨ma, rfl⟩ := Int.eq_ofNat_of_zero_le ma0
    refine ⟨_, _, rfl, rfl, ?_⟩
    refine ⟨_, rfl, _, rfl, _, _, rfl, rfl, box, l, _, rfl, st1.box, by omega, log_small (by omega) (by omega), fun H2 ba st2 ba0 ba1 => ?_⟩
    obtain ⟨ba, rfl⟩ := Int.eq_ofNat_of_zero_le ba0
    refine ⟨_, rfl, box, l, _, rfl, st2.box, by omega, log_small (by omega) (by omega), fun H3 pl st3 pl0 pl1 => ?_⟩
    have st := (st1.trans st2).trans st3
    refine ⟨_, rfl, _, rfl, by omega, by omega, fun D hD => ?_⟩
    refine made_range (K := K) (lo := 0) (GB box l H3) (fun _ H v => ∃ n : Nat, v = .int (n : Nat) ∧ n ≤ mr) (by omega) ⟨st.box, Keep.refl _ _⟩ (fun H2 o g => g.put st.box hD) (fun i H2 H3 v t h => h) ?_ ?_
    · intro i H4 hi g Z hZ
      refine ⟨rfl, ?_⟩
      refine ⟨_, rfl, rfl, _, rfl, ite2 (fun e => ?_) (fun e => ?_)⟩
      · exact ⟨_, rfl, hZ _ _ g (Tk.refl K H4) (fun o e => e) ⟨ba, rfl, by omega⟩⟩
      · refine ⟨_, rfl, _, rfl, _, _, rfl, rfl, box, l, _, rfl, g.1, by omega, log_small (by omega) (by omega), fun H5 x st5 x0 x1 => ?_⟩
        obtain ⟨x, rfl⟩ := Int.eq_ofNat_of_zero_le x0
        exact hZ _ _ (g.go st5) (Tk.stp g.1 st5) (fun o e => st5.keep _ _ (st.box.ne hD) e) ⟨x, rfl, by omega⟩
    · intro H4 zs g4 hz4 lz hE
      obtain ⟨sz, rfl, hsz⟩ := ints_of hE
      have lsz : sz.length = ma + 1 := by
        unfold intsV at lz
        rw [List.length_map] at lz
        omega
      have st4 : Stp box l H H4 := st.trans g4.stp
      have nDb : D ≠ box := st.box.ne hD
      refine ⟨(by show 0 ≤ sizeLine; decide), fun L hL => ?_⟩
      have nLb : L ≠ box := st4.box.ne hL
      have nDL : D ≠ L := fun e => by
        rw [← e, hz4] at hL
        cases hL
      have sL := same_new (o := .lst []) hL
      have fL : H L = none := st4.free hL
      refine ⟨_, rfl, _, rfl, _, _, rfl, rfl, box, l, _, rfl, (st4.same sL).box, by omega, log_small (by omega) (by omega), fun H5 nt st5 nt0 nt1 => ?_⟩
      obtain ⟨nt, rfl⟩ := Int.eq_ofNat_of_zero_le nt0
      refine ⟨_, rfl, by omega, by omega, for_range (lo := 0) (n := ((nt : Nat) : Int).toNat) (fun i σ H' => Stp box l H H' ∧ H' D = some (.lst (intsV sz)) ∧ ∃ (zs : List V) (ts : List (Tie F.F)) (z8 z11 z12 z13 z14 : Option V), H' L = some (.lst zs) ∧ TiesT K H' F zs ts ∧ ts.length = i ∧ (∀ t ∈ ts, TieOk F sz t) ∧
        σ = [some (.ref box), some (.int a), some (.int (mp : Nat)), some (.int (mt : Nat)), some (.int (mr : Nat)), some (.int (1 + (ma : Nat))), some (.int (ba : Nat)), some (.int pl), z8, some (.ref D), some (.ref L), z11, z12, z13, z14]) ?_ ?_ ?_⟩
      · exact ⟨(st4.same sL).trans st5, st5.keep _ _ nDb (sL _ _ hz4), [], [], none, none, none, none, none, st5.keep _ _ nLb upd_same, .nil, rfl, (fun t h => by cases h), rfl⟩
      · rintro i σ H6 hi ⟨s6, hD6, zs, ts, z8, z11, z12, z13, z14, hL6, hT, lt, hok, rfl⟩
        have hit : i < 12 := by omega
        refine ⟨_, rfl, _, rfl, box, l, _, rfl, s6.box, by omega, log_small (by omega) (by omega), fun H7 on st7 on0 on1 => ?_⟩
        obtain ⟨on, rfl⟩ := Int.eq_ofNat_of_zero_le on0
        refine ⟨_, rfl, _, rfl, box, l, _, rfl, st7.box, by omega, log_small (by omega) (by omega), fun H8 ot st8 ot0 ot1 => ?_⟩
        obtain ⟨ot, rfl⟩ := Int.eq_ofNat_of_zero_le ot0
        refine ⟨_, rfl, _, rfl, _, rfl, _, rfl, _, _, rfl, rfl, box, l, _, rfl, st8.box, by omega, log_small (by omega) (by omega), fun H9 x st9 x0 x1 => ?_⟩
        obtain ⟨x, rfl⟩ := Int.eq_ofNat_of_zero_le x0
        refine ⟨(by show 3 ≤ sizeLine; decide), fun z nz => ?_⟩
        have sz9 := same_new (o := .lst [.int (ba : Nat), .int (ba : Nat), .int (x : Nat)]) nz
        have s9 := ((st7.trans st8).trans st9).same sz9
        refine ⟨_, rfl, box, l, _, rfl, s9.box, by decide, by decide +kernel, fun H10 r st10 r0 r1 => ?_⟩
        have hz : SqL K H10 z [.int (ba : Nat), .int (ba : Nat), .int (x : Nat)] := SqL.keep (SqL.of upd_same) (st9.box.ne nz) st10.keep
        obtain ⟨rm, hrm, hrm3⟩ : ∃ rm : Nat, atI [V.int (ba : Nat), .int (ba : Nat), .int (x : Nat)] r = some (.int (rm : Nat)) ∧ rm ≤ 3 := by
          have : r = 0 ∨ r = 1 ∨ r = 2 := by omega
          rcases this with rfl | rfl | rfl
          · exact ⟨ba, rfl, by omega⟩
          · exact ⟨ba, rfl, by omega⟩
          · exact ⟨x, rfl, by omega⟩
        refine ⟨z, _, _, _, rfl, rfl, hz, hrm, ?_⟩
        clear hrm hz
        have s10 := s9.trans st10
        have hD10 := s10.keep _ _ nDb hD6
        refine ⟨_, rfl, _, rfl, _, rfl, _, rfl, _, rfl, D, intsV sz, _, _, rfl, rfl, SqL.of hD10, ints_at (i := on) (by omega), ?_⟩
        have w1 : sz.getD on 0 ≤ 3 := getD_le fun n h => Nat.le_trans (hsz n h) r3
        have w2 : sz.getD ot 0 ≤ 3 := getD_le fun n h => Nat.le_trans (hsz n h) r3
        refine ⟨box, l, a, rm, sz.getD on 0, F, rfl, s10.box, hf, hrm3, w1, fun H11 v1 T1 st11 hT1 ok1 => ?_⟩
        have s11 := s10.trans st11
        have hD11 := s11.keep _ _ nDb hD6
        refine ⟨_, rfl, .inl ⟨rfl, _, SqL.of (s11.keep _ _ nLb hL6)⟩, _, rfl, _, rfl, _, rfl, _, rfl, _, rfl, _, rfl, _, rfl, _, rfl, _, rfl, D, intsV sz, _, _, rfl, rfl, SqL.of hD11, ints_at (i := ot) (by omega), ?_⟩
        refine ⟨box, l, a, rm, sz.getD ot 0, F, rfl, s11.box, hf, hrm3, w2, fun H12 v2 T2 st12 hT2 ok2 => ?_⟩
        have s12 := s11.trans st12
        refine ⟨(by show 5 ≤ sizeLine; decide), fun p hp => ?_⟩
        have sp := same_new (o := .tup [.int (on : Nat), .int (ot : Nat), .int (rm : Nat), v1, v2]) hp
        have s13 := s12.same sp
        have hL13 := s13.keep _ _ nLb hL6
        have lzs := hT.len
        refine ⟨L, zs, _, rfl, rfl, hL13, small1000 (by omega), ?_⟩
        have tp := Tk.put (K := K) (o := .lst (zs ++ [.ref p])) hL13
        have tall := (Tk.stp s6.box s13).trans tp
        refine ⟨(s6.trans s13).put hb fL, ?_, zs ++ [.ref p], ts ++ [⟨on, ot, rm, T1, T2⟩], _, _, _, _, _, upd_same, ?_, by rw [List.length_append, lt]; rfl, ?_, rfl⟩
        · rw [upd_ne nDL]
          exact s13.keep _ _ nDb hD6
        · exact TiesT.snoc ⟨p, v1, v2, rfl, tp _ _ (SqT.of upd_same), hT1.tk (((Tk.stp s11.box st12).trans (Tk.same sp)).trans tp), hT2.tk ((Tk.same sp).trans tp)⟩ (hT.tk tall)
        · intro t ht
          rcases List.mem_append.mp ht with ht | ht
          · exact hok t ht
          · rw [List.mem_singleton.mp ht]
            exact ⟨by show on < sz.length; omega, by show ot < sz.length; omega, hrm3, ok1, ok2⟩
      · rintro σ H6 ⟨s6, hD6, zs, ts, z8, z11, z12, z13, z14, hL6, hT, lt, hok, rfl⟩
        refine ⟨_, rfl, _, rfl, D, _, rfl, .inl ⟨SqL.of hD6, fun pa hpa => ?_⟩⟩
        have sa := same_new (o := .tup (intsV sz)) hpa
        refine ⟨_, rfl, L, zs, rfl, .inl ⟨SqL.of (sa _ _ hL6), fun pb hpb => ?_⟩⟩
        have sb := same_new (o := .tup zs) hpb
        refine ⟨(by show 3 ≤ sizeLine; decide), fun pc hpc => ?_⟩
        have sc := same_new (o := .tup [.int a, .ref pa, .ref pb]) hpc
        exact q _ _ sz ts (((s6.same sa).same sb).same sc) ⟨pc, pa, pb, zs, rfl, SqT.of upd_same, SqT.of (sc _ _ (sb _ _ upd_same)), SqT.of (sc _ _ upd_same), hT.tk (((Tk.same sa).trans (Tk.same sb)).trans (Tk.same sc))⟩ ⟨by omega, by omega, fun n h => Nat.le_trans (hsz n h) r3, by omega, hok⟩

open Lin
def rInt1 : List V → Hp → VK → Prop := fun xs H Q => (∃ i, xs = [.int i] ∧ Q (.int i) H) ∨ ∃ k, xs = [.bl k] ∧ Q (.int (if k then 1 else 0)) H
/-- a row of whole numbers not above b -/
def IRow (K : PySem.W.Frag) (H : Hp) {f : Int} (F : Fd f) (w b : Nat) (v : V) : Prop := letI := F.fld; ∃ l : List F.F, RowT K H F v l ∧ l.length = w ∧ ∀ j, ∃ n : Int, vec l j = F.ofI n ∧ n.natAbs ≤ b
section
variable {K : PySem.W.Frag} {H H1 : Hp} {f : Int} {F : Fd f} {w b : Nat} {v : V}
theorem IRow.tk (h : IRow K H F w b v) (t : Tk K H H1) : IRow K H1 F w b v := by
  obtain ⟨l, h1, h2⟩ := h
  exact ⟨l, h1.tk t, h2⟩
theorem IRow.mono {c : Nat} (h : IRow K H F w b v) (e : b ≤ c) : IRow K H F w c v := by
  obtain ⟨l, h1, h2, h3⟩ := h
  refine ⟨l, h1, h2, fun j => ?_⟩
  obtain ⟨n, e1, e2⟩ := h3 j
  exact ⟨n, e1, Nat.le_trans e2 e⟩
theorem ofI_zero' : letI := F.fld; F.ofI 0 = 0 := by
  letI := F.fld
  refine (F.ofI0 0).mpr ?_
  split
  · rfl
  · exact Int.zero_emod _
theorem ofI_neg1 : letI := F.fld; F.ofI (-1) = -1 := by
  letI := F.fld
  have h := F.ofI_add (-1) 1
  rw [show (-1 : Int) + 1 = 0 from rfl, ofI_zero', F.ofI_one] at h
  grind
theorem s99_ofI (hf : IsF f) {n : Int} (h : n.natAbs ≤ 99) : S99 (F.enc (F.ofI n)) := by
  by_cases h0 : f = 0
  · rw [F.encI, if_pos h0]
    exact ⟨h, (by decide : (1 : Int).natAbs ≤ 99)⟩
  · exact isN_s99 hf h0 (F.num _)
theorem s99_sz6 {x : F.F} (h : S99 (F.enc x)) : Sz6 F x := (S99.sm h).mono (by decide)
theorem IRow.rowS (hf : IsF f) (h : IRow K H F w b v) (hb : b ≤ 99) : RowS K H F w v := by
  letI := F.fld
  letI := F.dec
  obtain ⟨l, h1, h2, h3⟩ := h
  refine ⟨l, h1, h2, fun x hx => ?_⟩
  obtain ⟨i, hi⟩ := List.mem_iff_getElem?.mp hx
  obtain ⟨n, e1, e2⟩ := h3 i
  have hlt := (List.getElem?_eq_some_iff.mp hi).1
  have e3 := (vec_lt (l := l) hlt).symm.trans hi
  have e3 := Option.some.inj e3
  rw [← e3, e1]
  exact s99_ofI hf (by omega)
theorem irow_of {K : PySem.W.Frag} {H : Hp} {f : Int} (F : Fd f) : ∀ {zs : List V}, (∀ (i : Nat) (v : V), zs[i]? = some v → ∃ n : Int, n.natAbs ≤ 1 ∧ NumV K H v (F.enc (F.ofI n))) → letI := F.fld; ∃ l : List F.F, NumsV K H zs (l.map F.enc) ∧ l.length = zs.length ∧ ∀ j, ∃ n : Int, vec l j = F.ofI n ∧ n.natAbs ≤ 1
  | [], _ => ⟨[], .nil, rfl, fun j => ⟨0, by rw [ofI_zero']; rfl, by decide⟩⟩
  | z :: zs, h => by
    letI := F.fld
    obtain ⟨n, h1, h2⟩ := h 0 z rfl
    obtain ⟨l, g1, g2, g3⟩ := irow_of F (zs := zs) fun i v e => h (i + 1) v (by simpa using e)
    refine ⟨F.ofI n :: l, .cons h2 g1, by rw [List.length_cons, g2]; rfl, fun j => ?_⟩
    cases j with
    | zero => exact ⟨n, rfl, h1⟩
    | succ j => exact g3 j
end
def spTurn (K : PySem.W.Frag) : Sp := fun vs H Q _ => ∃ (box l : Addr) (f : Int) (r : Nat) (F : Fd f), vs = [.ref box, .int f, .int (r : Nat)] ∧ BoxAt H box l ∧ IsF f ∧ r ≤ 3 ∧ ∀ H' v (T : List (List F.F)), Stp box l H H' → TabT K H' F v T → TabOk F T r r → Q v H'
theorem len__law_turning_table {K vs H Q E} (h : spTurn K vs H Q E) : vs.length = (["_law_box", "_law_field_here", "_law_room"] : List Str).length := by
  obtain ⟨box, l, f, r, F, rfl, _⟩ := h
  rfl
theorem d__law_turning_table {P : Program} {w : World} {K : PySem.W.Frag} {mg : Str → Option Value} {base : Heap} (R : Raw K mg "_law_turning_table" s__law_turning_table) (B : Bn mg) (D__law_added : Def P w K mg base "_law_added" 4 ["_law_field_here", "_law_row_here", "_law_other"] (spLAdded K)) (D__law_scaled : Def P w K mg base "_law_scaled" 4 ["_law_field_here", "_law_row_here", "_law_factor"] (spLScaled K)) (D__law_draw : Def P w K mg base "_law_draw" 1 ["_law_box", "_law_many"] (spDraw)) (D__law_num : Def P w K mg base "_law_num" 2 ["_law_field_here", "_law_top", "_law_bottom"] (spNum K)) (D__law_less : Def P w K mg base "_law_less" 1 ["_law_field_here", "_law_number_here"] (spOne K false negN)) : Def P w K mg base "_law_turning_table" 5 ["_law_box", "_law_field_here", "_law_room"] (spTurn K) := by
  obtain ⟨f, fd, F, m⟩ := R
  obtain ⟨f__law_added, fd__law_added, G__law_added, m__law_added, k__law_added, b__law_added⟩ := D__law_added
  obtain ⟨f__law_scaled, fd__law_scaled, G__law_scaled, m__law_scaled, k__law_scaled, b__law_scaled⟩ := D__law_scaled
  obtain ⟨f__law_draw, fd__law_draw, G__law_draw, m__law_draw, k__law_draw, b__law_draw⟩ := D__law_draw
  obtain ⟨f__law_num, fd__law_num, G__law_num, m__law_num, k__law_num, b__law_num⟩ := D__law_num
  obtain ⟨f__law_less, fd__law_less, G__law_less, m__law_less, k__law_less, b__law_less⟩ := D__law_less
  refine ⟨f, fd, F.ok sc__law_turning_table (fun vs H Q E h => ?_) (fun cdv A outer s H vs Q E hr h => ?_), m, F.kp, F.binds (ps := ["_law_box", "_law_field_here", "_law_room"]) fun _ _ _ _ _ _ us hl => match us, hl with | [_, _, _], _ => rfl⟩
  · exact len__law_turning_table h

  · obtain ⟨box, l, a, r, F, rfl, hb, hf, r3, q⟩ := h
    letI := F.fld
    letI := F.dec
    refine ⟨_, (pss_cons (ps_setLc (i := 5) (own := [("_law_k", 3)]) (g := gName 3) (tt := tYes) rfl sc__law_turning_table.nd rfl rfl (sw_true rfl rfl rfl (by decide +kernel)) (pi_range1 (by rfl) B.range (pa_cons (pv 2) pa_nil)) (blkOk_by (N := ["_law_box", "_law_field_here", "_law_room", "_law_k", "_law_at", "_law_left", "_law_rows"]) (sc := defScope s__law_turning_table) (by decide +kernel)) (fun _ _ _ _ _ => pg_name (i := 3) sc__law_turning_table.nd rfl (Or.inr rfl)) (fun _ _ _ _ _ => pts_nil) (fun _ _ _ _ _ => (pe_callTy (show CallR _ (.type "tuple") (rTupOf K) from cr_tupOf) (by rfl) B.tuple (by decide +kernel) (pa_cons (pe_lc (own := [("_law_at", 4)]) (g := gName 4) (tt := tYes) rfl sc__law_turning_table.nd (pi_range1 (by rfl) B.range (pa_cons (pv 2) pa_nil)) (blkOk_by (N := ["_law_box", "_law_field_here", "_law_room", "_law_k", "_law_at", "_law_left", "_law_rows"]) (sc := { kind := PySem.ScopeKind.function, names := [ (PySem.Str.ofString ".0", PySem.NameKind.local), (PySem.Str.ofString "_law_k", PySem.NameKind.cell), (PySem.Str.ofString "tuple", PySem.NameKind.globalImplicit), (PySem.Str.ofString "range", PySem.NameKind.globalImplicit), (PySem.Str.ofString "_law_room", PySem.NameKind.cell)], isGenerator := false, isCoroutine := false, more := [] : PySem.Scope }) (by decide +kernel)) (fun _ _ _ _ _ => pg_name (i := 4) sc__law_turning_table.nd rfl (Or.inl rfl)) (fun _ _ _ _ _ => pts_nil) (fun _ _ _ _ _ => (pe_tup (pa_cons (pe_callTy (show CallR _ (.type "int") rInt1 from call_int1) (by rfl) B.int (by decide +kernel) (pa_cons (pe_cmpR op_eq (pv 3) (pv 4) (nomark _)) pa_nil)) (pa_cons pe_int pa_nil))))) pa_nil)))) (pss_cons (ps_set (i := 6) sc__law_turning_table.nd rfl (Or.inl rfl) (pe_lst pa_nil)) (pss_cons (ps_for PassesOwn.never rfl (pi_range1 (by rfl) B.range (pa_cons (pv 2) pa_nil)) (pg_name (i := 3) sc__law_turning_table.nd rfl (Or.inl rfl)) (pss_one (ps_expr (pe_bm PySem.F.plainAttrs_list PySem.F.slot_list_append PySem.F.type_list_append mt_append (pv 6) (pa_cons (pe_bm PySem.F.plainAttrs_list PySem.F.slot_list_pop PySem.F.type_list_pop mt_popAt (pv 5) (pa_cons (pe_call G__law_draw (hr.mono (by omega)) (by rfl) m__law_draw k__law_draw b__law_draw .nil pass0 (pa_cons (pv 0) (pa_cons (pe_callB call_len_seq (by rfl) B.len PySem.boot_len (pa_cons (pv 5) pa_nil)) pa_nil))) pa_nil)) pa_nil))))) (pss_cons (ps_for PassesOwn.never rfl (pi_range2 (by rfl) B.range (pa_cons pe_int (pa_cons (pv 2) pa_nil))) (pg_name (i := 3) sc__law_turning_table.nd rfl (Or.inl rfl)) (pss_one (ps_asg (pe_call G__law_added (hr.mono (by omega)) (by rfl) m__law_added k__law_added b__law_added .nil pass0 (pa_cons (pv 1) (pa_cons (pe_ix ix_list (pv 6) (pv 3) (fun _ _ => rfl)) (pa_cons (pe_call G__law_scaled (hr.mono (by omega)) (by rfl) m__law_scaled k__law_scaled b__law_scaled .nil pass0 (pa_cons (pv 1) (pa_cons (pe_ix ix_list (pv 6) (pe_op op_sub (pv 3) pe_int) (fun _ _ => rfl)) (pa_cons (pe_call G__law_num (hr.mono (by omega)) (by rfl) m__law_num k__law_num b__law_num .nil pass0 (pa_cons (pv 1) (pa_cons (pe_op op_sub (pe_call G__law_draw (hr.mono (by omega)) (by rfl) m__law_draw k__law_draw b__law_draw .nil pass0 (pa_cons (pv 0) (pa_cons pe_int pa_nil))) pe_int) (pa_cons pe_int pa_nil)))) pa_nil)))) pa_nil)))) (pg_sub (pv 6) (pv 3) set_list)))) (pss_cons (ps_if (pt_cmpR op_gt (pv 2) pe_int (nomark _)) (pss_one (ps_asg (pe_call G__law_scaled (hr.mono (by omega)) (by rfl) m__law_scaled k__law_scaled b__law_scaled .nil pass0 (pa_cons (pv 1) (pa_cons (pe_ix ix_list (pv 6) pe_int (fun _ _ => rfl)) (pa_cons (pe_ix ix_list (pe_lst (pa_cons (pe_tup (pa_cons pe_int (pa_cons pe_int pa_nil))) (pa_cons (pe_call G__law_less (hr.mono (by omega)) (by rfl) m__law_less k__law_less b__law_less .nil pass0 (pa_cons (pv 1) (pa_cons (pe_tup (pa_cons pe_int (pa_cons pe_int pa_nil))) pa_nil))) pa_nil))) (pe_call G__law_draw (hr.mono (by omega)) (by rfl) m__law_draw k__law_draw b__law_draw .nil pass0 (pa_cons (pv 0) (pa_cons pe_int pa_nil))) (fun _ _ => rfl)) pa_nil)))) (pg_sub (pv 6) pe_int set_list))) pss_nil) (pss_one (ps_ret (pe_callTy call_tuple_of (by rfl) B.tuple (by decide +kernel) (pa_cons (pv 6) pa_nil))))))))), ?_⟩
    refine ⟨_, rfl, (r : Nat), rfl, by omega, by omega, fun D hD => ?_⟩
    have nDb : D ≠ box := hb.ne hD
    refine made_range (K := K) (lo := 0) (n := ((r : Nat) : Int).toNat) (GB box l H) (fun _ H v => IRow K H F r 1 v) (by omega) ⟨hb, Keep.refl _ _⟩ (fun H2 o g => g.put hb hD) (fun i H2 H3 v t h => h.tk t) ?_ ?_
    · intro i H2 hi g Z hZ
      refine ⟨rfl, _, rfl, (r : Nat), rfl, by omega, by omega, fun D2 hD2 => ?_⟩
      refine made_range (K := K) (lo := 0) (n := ((r : Nat) : Int).toNat) (fun H3 => Same H2 H3) (fun _ H v => ∃ n : Int, n.natAbs ≤ 1 ∧ NumV K H v (F.enc (F.ofI n))) (by omega) (Same.refl H2) (fun H3 o s b x e => by rw [upd_ne (ne_of_none e hD2)]; exact s b x e) (fun i H2 H3 v t h => by obtain ⟨n, h1, h2⟩ := h; exact ⟨n, h1, h2.tk t⟩) ?_ ?_
      · intro j H3 hj s3 Z2 hZ2
        refine ⟨rfl, ?_⟩
        refine ⟨_, rfl, _, rfl, rfl, .inr ⟨_, rfl, (by show 2 ≤ sizeLine; decide), fun p hp => ?_⟩⟩
        have sp := same_new (o := .tup [.int (if decide (V.int (0 + (i : Int)) = V.int (0 + (j : Int))) = true then 1 else 0), .int 1]) hp
        refine hZ2 _ _ (s3.trans sp) (Tk.same sp) (fun o e => sp _ _ e) ?_
        by_cases e : V.int (0 + (i : Int)) = V.int (0 + (j : Int))
        · refine ⟨1, by decide, ?_⟩
          rw [F.ofI_one, F.one, decide_eq_true e]
          exact NumV.new 1 1
        · refine ⟨0, by decide, ?_⟩
          rw [ofI_zero', F.zero, decide_eq_false e]
          exact NumV.new 0 1
      · intro H3 zs s3 hz lz hE
        refine ⟨D2, zs, rfl, .inl ⟨SqL.of hz, fun p hp => ?_⟩⟩
        have sp := s3.trans (same_new (o := .tup zs) hp)
        obtain ⟨ls, h1, h2, h3⟩ := irow_of F hE
        exact hZ _ _ (g.go ⟨Keep.of sp, g.1.same sp⟩) (Tk.same sp) (fun o e => sp _ _ e) ⟨ls, ⟨p, zs, rfl, SqT.of upd_same, NumsV.same (same_new hp) h1⟩, by omega, h3⟩
    · intro H2 zs0 g2 hz0 lz0 hE0
      have hM0 : ∀ v ∈ zs0, IRow K H2 F r 1 v := fun v hv => by
        obtain ⟨i, hi⟩ := List.mem_iff_getElem?.mp hv
        exact hE0 i v hi
      refine ⟨(by show 0 ≤ sizeLine; decide), fun L hL => ?_⟩
      have nLb : L ≠ box := g2.1.ne hL
      have nDL : D ≠ L := fun e => by
        rw [← e, hz0] at hL
        cases hL
      have sL := same_new (o := .lst []) hL
      have fL : H L = none := g2.stp.free hL
      refine ⟨_, rfl, (r : Nat), rfl, by omega, by omega, for_range (lo := 0) (n := ((r : Nat) : Int).toNat) (fun i σ H' => Stp box l H H' ∧ ∃ (zs ys : List V) (z3 z4 : Option V), H' D = some (.lst zs) ∧ zs.length + i = r ∧ (∀ v ∈ zs, IRow K H' F r 1 v) ∧ H' L = some (.lst ys) ∧ ys.length = i ∧ (∀ v ∈ ys, IRow K H' F r 1 v) ∧
        σ = [some (.ref box), some (.int a), some (.int (r : Nat)), z3, z4, some (.ref D), some (.ref L)]) ?_ ?_ ?_⟩
      · exact ⟨g2.stp.same sL, zs0, [], none, none, sL _ _ hz0, by omega, fun v hv => (hM0 v hv).tk (Tk.same sL), upd_same, rfl, (fun v h => by cases h), rfl⟩
      · rintro i σ H3 hi ⟨s3, zs, ys, z3, z4, hD3, lzs, hzs, hL3, lys, hys, rfl⟩
        refine ⟨_, rfl, .inl ⟨rfl, _, SqL.of hL3⟩, _, rfl, .inl ⟨rfl, _, SqL.of hD3⟩, _, rfl, _, rfl, D, zs, rfl, .inl (SqL.of hD3), box, l, _, rfl, s3.box, by omega, log_small (by omega) (by omega), fun H4 k st4 k0 k1 => ?_⟩
        obtain ⟨k, rfl⟩ := Int.eq_ofNat_of_zero_le k0
        have hk : k < zs.length := by omega
        have hD4 := st4.keep _ _ nDb hD3
        have hL4 := st4.keep _ _ nLb hL3
        have t4 := Tk.stp (K := K) s3.box st4
        have ek : zs[k]? = some zs[k] := List.getElem?_eq_getElem hk
        refine ⟨D, zs, _, k, zs[k], rfl, rfl, hD4, by omega, by omega, ?_, ek, ?_⟩
        · exact (ixN_seq (ix_nat hk)).1
        have tp := Tk.put (K := K) (o := .lst (zs.eraseIdx k)) hD4
        have hL5 : (upd H4 D (.lst (zs.eraseIdx k))) L = some (.lst ys) := by
          rw [upd_ne nDL.symm]
          exact hL4
        refine ⟨L, ys, _, rfl, rfl, hL5, small1000 (by omega), ?_⟩
        have tq := Tk.put (K := K) (o := .lst (ys ++ [zs[k]])) hL5
        have tt := (t4.trans tp).trans tq
        refine ⟨(((s3.trans st4).put hb hD).put hb fL), zs.eraseIdx k, ys ++ [zs[k]], _, _, ?_, ?_, fun v hv => (hzs v (List.mem_of_mem_eraseIdx hv)).tk tt, upd_same, by rw [List.length_append, lys]; rfl, fun v hv => ?_, rfl⟩
        · rw [upd_ne nDL]
          exact upd_same
        · rw [List.length_eraseIdx_of_lt hk]
          omega
        · rcases List.mem_append.mp hv with hv | hv
          · exact (hys v hv).tk tt
          · rw [List.mem_singleton.mp hv]
            exact (hzs _ (List.getElem_mem hk)).tk tt
      · rintro σ H3 ⟨s3, zs, ys, z3, z4, hD3, lzs, hzs, hL3, lys, hys, rfl⟩
        clear hzs hD3 lzs zs
        have lyr : ys.length = r := by omega
        clear lys
        have fin : ∀ {H5 : Hp} {ys : List V}, Stp box l H H5 → ys.length = r → (∀ v ∈ ys, IRow K H5 F r 9 v) → ∀ p, H5 p = none → Q (.ref p) (upd H5 p (.tup ys)) := fun {H5 ys} st ly h p hp => by
          have sp := same_new (o := .tup ys) hp
          obtain ⟨T, hT, ok⟩ := tab_of (F := F) (w := r) (zs := ys) fun i v e => (h v (List.mem_of_getElem? e)).rowS hf (by decide)
          rw [ly] at ok
          exact q _ _ T (st.same sp) ⟨p, ys, rfl, SqT.of upd_same, hT.same sp⟩ ok
        refine ⟨_, rfl, 1, (r : Nat), rfl, ⟨by omega, by omega, by omega, by omega⟩, for_range (lo := 1) (n := (((r : Nat) : Int) - 1).toNat) (fun i σ H' => Stp box l H H' ∧ ∃ (ys : List V) (z3 z4 : Option V), H' L = some (.lst ys) ∧ ys.length = r ∧ (∀ v ∈ ys, IRow K H' F r (3 ^ i) v) ∧
          σ = [some (.ref box), some (.int a), some (.int (r : Nat)), z3, z4, some (.ref D), some (.ref L)]) ?_ ?_ ?_⟩
        · exact ⟨s3, ys, z3, z4, hL3, lyr, hys, rfl⟩
        · clear hys hL3 lyr s3 ys
          rintro i σ H3 hi ⟨s3, ys, z3, z4, hL3, lys, hys, rfl⟩
          have e1 : (1 : Int) + (i : Int) = ((1 + i : Nat) : Int) := by omega
          rw [e1]
          have hk : 1 + i < ys.length := by omega
          have i2 : i ≤ 1 := by omega
          have p3 : 3 ^ i ≤ 3 := Nat.le_trans (Nat.pow_le_pow_right (by decide) i2) (by decide)
          have ex : ys[1 + i]? = some ys[1 + i] := List.getElem?_eq_getElem hk
          have ey : ys[i]? = some ys[i] := List.getElem?_eq_getElem (by omega)
          have hx := hys _ (List.mem_of_getElem? ex)
          have hy := hys _ (List.mem_of_getElem? ey)
          generalize ys[1 + i] = x at *
          generalize ys[i] = y at *
          refine ⟨_, rfl, _, rfl, _, rfl, L, ys, _, x, rfl, rfl, SqL.of hL3, atI_nat ex, _, rfl, _, rfl, _, rfl, _, _, rfl, rfl, L, ys, _, y, rfl, rfl, SqL.of hL3, by rw [show ((1 + i : Nat) : Int) - 1 = ((i : Nat) : Int) by omega]; exact atI_nat ey, ?_⟩
          refine ⟨_, rfl, _, rfl, box, l, _, rfl, s3.box, by decide, by decide +kernel, fun H4 d st4 d0 d1 => ?_⟩
          have hne : F.ofI 1 ≠ 0 := by
            rw [F.ofI_one]
            intro e
            exact Lean.Grind.Field.zero_ne_one e.symm
          refine ⟨_, _, rfl, rfl, a, d - 1, 1, rfl, hf, ?_, fun _ => ⟨Nat.lt_of_lt_of_le (show (d - 1).natAbs < 2 ^ 2 by omega) (Nat.pow_le_pow_right (by decide) (by decide)), Nat.lt_of_lt_of_le (show (1 : Int).natAbs < 2 ^ 1 by decide) (Nat.pow_le_pow_right (by decide) (by decide))⟩, fun H5 c s5 hc => ?_⟩
          · unfold nouB
            split
            · rfl
            · have h2 := hf.two (by assumption)
              rw [Int.emod_eq_of_lt (by decide) (by omega)]
              rfl
          have hc : NumV K H5 c (F.enc (F.ofI (d - 1))) := by
            have e := F.low (d - 1) 1 hne
            rw [F.ofI_one, show ((1 : F.F)⁻¹) = 1 from Lean.Grind.Field.inv_one, show F.ofI (d - 1) * 1 = F.ofI (d - 1) by grind] at e
            rw [e]
            exact hc
          have t4 := Tk.stp (K := K) s3.box st4
          have t5 := Tk.same (K := K) s5
          obtain ⟨ly, hy1, hy2, hy3⟩ := hy.tk (t4.trans t5)
          have sy : ∀ j, S99 (F.enc (vec ly j)) := fun j => by
            obtain ⟨n, e, hn⟩ := hy3 j
            rw [e]
            exact s99_ofI hf (by omega)
          refine ⟨a, y, c, F, ly, F.ofI (d - 1), rfl, hf, hy1, hc, by omega, fun j => s99_sz6 (sy j), s99_sz6 (s99_ofI hf (by omega)), fun H6 v6 s6 hv6 => ?_⟩
          have t6 := Tk.same (K := K) s6
          obtain ⟨lx, hx1, hx2, hx3⟩ := hx.tk ((t4.trans t5).trans t6)
          have hm : ∀ j, ∃ n : Int, vec (mulL F ly (F.ofI (d - 1))) j = F.ofI n ∧ n.natAbs ≤ 3 ^ i * 2 := fun j => by
            obtain ⟨n, e, hn⟩ := hy3 j
            refine ⟨n * (d - 1), by rw [mulL_vec, e, F.ofI_mul], ?_⟩
            rw [Int.natAbs_mul]
            exact Nat.mul_le_mul hn (by omega)
          have lm : (mulL F ly (F.ofI (d - 1))).length = r := by
            rw [mulL_len]
            exact hy2
          refine ⟨a, x, v6, F, lx, mulL F ly (F.ofI (d - 1)), rfl, hf, hx1, hv6, by omega, by omega, fun j => ?_, fun j => ?_, fun H7 v7 s7 hv7 => ?_⟩
          · obtain ⟨n, e, hn⟩ := hx3 j
            rw [e]
            exact s99_sz6 (s99_ofI hf (by omega))
          · obtain ⟨n, e, hn⟩ := hm j
            rw [e]
            exact s99_sz6 (s99_ofI hf (by omega))
          have t7 := Tk.same (K := K) s7
          have sA := (((s3.trans st4).same s5).same s6).same s7
          have hL7 := s7 _ _ (s6 _ _ (s5 _ _ (st4.keep _ _ nLb hL3)))
          refine ⟨_, rfl, _, rfl, L, ys, _, 1 + i, rfl, rfl, hL7, ix_nat hk, ?_⟩
          have tp := Tk.put (K := K) (o := .lst (ys.set (1 + i) v7)) hL7
          refine ⟨sA.put hb fL, ys.set (1 + i) v7, _, _, upd_same, by rw [List.length_set]; exact lys, fun v hv => ?_, rfl⟩
          rcases List.mem_or_eq_of_mem_set hv with hv | rfl
          · exact ((hys v hv).tk ((((t4.trans t5).trans t6).trans t7).trans tp)).mono (Nat.pow_le_pow_right (by decide) (by omega))
          · refine ⟨addL F lx (mulL F ly (F.ofI (d - 1))), hv7.tk tp, by rw [addL_len (by omega)]; exact hx2, fun j => ?_⟩
            obtain ⟨n, e, hn⟩ := hx3 j
            obtain ⟨m, e', hm'⟩ := hm j
            refine ⟨n + m, by rw [addL_vec (by omega), e, e', F.ofI_add], ?_⟩
            rw [Nat.pow_succ]
            omega
        · clear hys hL3 lyr s3 ys
          rintro σ H3 ⟨s3, ys, z3, z4, hL3, lys, hys, rfl⟩
          have hys : ∀ v ∈ ys, IRow K H3 F r 9 v := fun v hv => (hys v hv).mono (Nat.le_trans (Nat.pow_le_pow_right (by decide) (show (((r : Nat) : Int) - 1).toNat ≤ 2 by omega)) (by decide))
          refine ⟨_, rfl, _, _, rfl, rfl, _, rfl, ite2 (fun e => ?_) (fun e => ?_)⟩
          · have e := of_decide_eq_true e
            have ex : ys[0]? = some ys[0] := List.getElem?_eq_getElem (by omega)
            have hx := hys _ (List.mem_of_getElem? ex)
            generalize ys[0] = x at *
            refine ⟨_, rfl, _, rfl, L, ys, _, x, rfl, rfl, SqL.of hL3, atI_nat (j := 0) ex, (by show 2 ≤ sizeLine; decide), fun p1 n1 => ?_⟩
            have t1 := same_new (o := .tup [.int 1, .int 1]) n1
            refine ⟨_, rfl, (by show 2 ≤ sizeLine; decide), fun p2 n2 => ?_⟩
            have t2 := same_new (o := .tup [.int 1, .int 1]) n2
            have hN1 : IsN a (1, 1) := by
              have e := F.num 1
              rwa [F.one] at e
            refine ⟨a, _, (1, 1), rfl, hf, NumV.new 1 1, ⟨hN1, sm_of (by decide) (by decide) |>.mono (by decide)⟩, (fun z => Bool.noConfusion z), fun H5 v5 s5 hv5 => ?_⟩
            have hv5 : NumV K H5 v5 (F.enc (F.ofI (-1))) := by
              rw [ofI_neg1, F.neg, F.one]
              exact hv5
            have hv1 : NumV K H5 (.ref p1) (F.enc (F.ofI 1)) := by
              rw [F.ofI_one, F.one]
              exact ((NumV.new 1 1).same t2).same s5
            refine ⟨(by show 2 ≤ sizeLine; decide), fun z nz => ?_⟩
            have sz := same_new (o := .lst [.ref p1, v5]) nz
            have sA := (((s3.same t1).same t2).same s5).same sz
            refine ⟨_, rfl, box, l, _, rfl, sA.box, by decide, by decide +kernel, fun H6 d st6 d0 d1 => ?_⟩
            have hz : SqL K H6 z [.ref p1, v5] := SqL.keep (SqL.of upd_same) ((((s3.same t1).same t2).same s5).box.ne nz) st6.keep
            obtain ⟨u, m, hu, hm, hmu⟩ : ∃ (u : V) (m : Int), atI [.ref p1, v5] d = some u ∧ m.natAbs ≤ 1 ∧ NumV K H6 u (F.enc (F.ofI m)) := by
              have tz := (Tk.same (K := K) sz).trans (Tk.stp sA.box st6)
              have : d = 0 ∨ d = 1 := by omega
              rcases this with rfl | rfl
              · exact ⟨_, 1, rfl, by decide, hv1.tk tz⟩
              · exact ⟨_, -1, rfl, by decide, hv5.tk tz⟩
            refine ⟨z, _, _, u, rfl, rfl, hz, hu, ?_⟩
            have t6 : Tk K H3 H6 := ((((Tk.same t1).trans (Tk.same t2)).trans (Tk.same s5)).trans (Tk.same sz)).trans (Tk.stp sA.box st6)
            obtain ⟨lx, hx1, hx2, hx3⟩ := hx.tk t6
            refine ⟨a, x, u, F, lx, F.ofI m, rfl, hf, hx1, hmu, by omega, fun j => ?_, s99_sz6 (s99_ofI hf (by omega)), fun H7 v7 s7 hv7 => ?_⟩
            · obtain ⟨n, e, hn⟩ := hx3 j
              rw [e]
              exact s99_sz6 (s99_ofI hf (by omega))
            have hL7 := s7 _ _ (st6.keep _ _ nLb (sz _ _ (s5 _ _ (t2 _ _ (t1 _ _ hL3)))))
            refine ⟨_, rfl, L, ys, _, 0, rfl, rfl, hL7, ix_nat (n := ys.length) (k := 0) (by omega), ?_⟩
            have tp := Tk.put (K := K) (o := .lst (ys.set 0 v7)) hL7
            refine ⟨_, rfl, L, ys.set 0 v7, rfl, .inl ⟨SqL.of upd_same, fin ((sA.trans st6).same s7 |>.put hb fL) (by rw [List.length_set]; exact lys) fun v hv => ?_⟩⟩
            rcases List.mem_or_eq_of_mem_set hv with hv | rfl
            · exact (hys v hv).tk ((t6.trans (Tk.same s7)).trans tp)
            · refine ⟨mulL F lx (F.ofI m), hv7.tk tp, by rw [mulL_len]; exact hx2, fun j => ?_⟩
              obtain ⟨n, e, hn⟩ := hx3 j
              refine ⟨n * m, by rw [mulL_vec, e, F.ofI_mul], ?_⟩
              rw [Int.natAbs_mul]
              exact Nat.le_trans (Nat.mul_le_mul hn hm) (by decide)
          · exact ⟨_, rfl, L, ys, rfl, .inl ⟨SqL.of hL3, fin s3 lys hys⟩⟩

open Lin
theorem d__law_stiff_web {P : Program} {w : World} {K : PySem.W.Frag} {mg : Str → Option Value} {base : Heap} (R : Raw K mg "_law_stiff_web" s__law_stiff_web) (B : Bn mg) (D__law_draw : Def P w K mg base "_law_draw" 1 ["_law_box", "_law_many"] (spDraw)) (D__law_turning_table : Def P w K mg base "_law_turning_table" 5 ["_law_box", "_law_field_here", "_law_room"] (spTurn K)) : Def P w K mg base "_law_stiff_web" 6 ["_law_box", "_law_field_here", "_law_most_places", "_law_most_ties", "_law_most_room"] (spWeb K) := by
  obtain ⟨f, fd, F, m⟩ := R
  obtain ⟨f__law_draw, fd__law_draw, G__law_draw, m__law_draw, k__law_draw, b__law_draw⟩ := D__law_draw
  obtain ⟨f__law_turning_table, fd__law_turning_table, G__law_turning_table, m__law_turning_table, k__law_turning_table, b__law_turning_table⟩ := D__law_turning_table
  refine ⟨f, fd, F.ok sc__law_stiff_web (fun vs H Q E h => ?_) (fun cdv A outer s H vs Q E hr h => ?_), m, F.kp, F.binds (ps := ["_law_box", "_law_field_here", "_law_most_places", "_law_most_ties", "_law_most_room"]) fun _ _ _ _ _ _ us hl => match us, hl with | [_, _, _, _, _], _ => rfl⟩
  · exact len__law_stiff_web h

  · obtain ⟨box, l, a, mp, mt, mr, F, rfl, hb, hf, p1, p8, t12, r3, q⟩ := h
    refine ⟨_, (pss_cons (ps_set (i := 5) sc__law_stiff_web.nd rfl (Or.inl rfl) (pe_op op_add pe_int (pe_call G__law_draw (hr.mono (by omega)) (by rfl) m__law_draw k__law_draw b__law_draw .nil pass0 (pa_cons (pv 0) (pa_cons (pv 2) pa_nil))))) (pss_cons (ps_set (i := 6) sc__law_stiff_web.nd rfl (Or.inl rfl) (pe_call G__law_draw (hr.mono (by omega)) (by rfl) m__law_draw k__law_draw b__law_draw .nil pass0 (pa_cons (pv 0) (pa_cons (pe_op op_add (pv 4) pe_int) pa_nil)))) (pss_cons (ps_set (i := 7) sc__law_stiff_web.nd rfl (Or.inl rfl) (pe_lst pa_nil)) (pss_cons (ps_for PassesOwn.never rfl (pi_range1 (by rfl) B.range (pa_cons (pe_call G__law_draw (hr.mono (by omega)) (by rfl) m__law_draw k__law_draw b__law_draw .nil pass0 (pa_cons (pv 0) (pa_cons (pe_op op_add (pv 3) pe_int) pa_nil))) pa_nil)) (pg_name (i := 8) sc__law_stiff_web.nd rfl (Or.inl rfl)) (pss_cons (ps_set (i := 9) sc__law_stiff_web.nd rfl (Or.inl rfl) (pe_call G__law_draw (hr.mono (by omega)) (by rfl) m__law_draw k__law_draw b__law_draw .nil pass0 (pa_cons (pv 0) (pa_cons (pv 5) pa_nil)))) (pss_cons (ps_set (i := 10) sc__law_stiff_web.nd rfl (Or.inl rfl) (pe_call G__law_draw (hr.mono (by omega)) (by rfl) m__law_draw k__law_draw b__law_draw .nil pass0 (pa_cons (pv 0) (pa_cons (pv 5) pa_nil)))) (pss_cons (ps_set (i := 11) sc__law_stiff_web.nd rfl (Or.inl rfl) (pe_call G__law_turning_table (hr.mono (by omega)) (by rfl) m__law_turning_table k__law_turning_table b__law_turning_table .nil pass0 (pa_cons (pv 0) (pa_cons (pv 1) (pa_cons (pv 6) pa_nil))))) (pss_cons (ps_set (i := 12) sc__law_stiff_web.nd rfl (Or.inl rfl) (pe_ifExp (pt_cmpR op_gt (pe_call G__law_draw (hr.mono (by omega)) (by rfl) m__law_draw k__law_draw b__law_draw .nil pass0 (pa_cons (pv 0) (pa_cons pe_int pa_nil))) pe_int (nomark _)) (pv 11) (pe_call G__law_turning_table (hr.mono (by omega)) (by rfl) m__law_turning_table k__law_turning_table b__law_turning_table .nil pass0 (pa_cons (pv 0) (pa_cons (pv 1) (pa_cons (pv 6) pa_nil)))))) (pss_one (ps_expr (pe_bm PySem.F.plainAttrs_list PySem.F.slot_list_append PySem.F.type_list_append mt_append (pv 7) (pa_cons (pe_tup (pa_cons (pv 9) (pa_cons (pv 10) (pa_cons (pv 6) (pa_cons (pv 11) (pa_cons (pv 12) pa_nil)))))) pa_nil))))))))) (pss_one (ps_ret (pe_tup (pa_cons (pv 1) (pa_cons (pe_op op_repA (pe_tup (pa_cons (pv 6) pa_nil)) (pv 5)) (pa_cons (pe_callTy call_tuple_of (by rfl) B.tuple (by decide +kernel) (pa_cons (pv 7) pa_nil)) pa_nil)))))))))), ?_⟩
    refine ⟨_, rfl, _, rfl, box, l, _, rfl, hb, by omega, log_small (by omega) (by omega), fun H1 ma st1 ma0 ma1 => ?_⟩
    obtain ⟨ma, rfl⟩ := Int.eq_ofNat_of_zero_le ma0
    refine ⟨_, _, rfl, rfl, ?_⟩
    refine ⟨_, rfl, _, rfl, _, _, rfl, rfl, box, l, _, rfl, st1.box, by omega, log_small (by omega) (by omega), fun H2 rm st2 rm0 rm1 => ?_⟩
    obtain ⟨rm, rfl⟩ := Int.eq_ofNat_of_zero_le rm0
    have st := st1.trans st2
    refine ⟨(by show 0 ≤ sizeLine; decide), fun L hL => ?_⟩
    have nLb : L ≠ box := st.box.ne hL
    have sL := same_new (o := .lst []) hL
    have fL : H L = none := st.free hL
    refine ⟨_, rfl, _, rfl, _, _, rfl, rfl, box, l, _, rfl, (st.same sL).box, by omega, log_small (by omega) (by omega), fun H5 nt st5 nt0 nt1 => ?_⟩
    obtain ⟨nt, rfl⟩ := Int.eq_ofNat_of_zero_le nt0
    have hgd : ∀ i, i < 1 + ma → (List.replicate (1 + ma) rm).getD i 0 = rm := fun i hi => by
      rw [List.getD_eq_getElem?_getD, List.getElem?_replicate, if_pos hi]
      rfl
    refine ⟨_, rfl, by omega, by omega, for_range (lo := 0) (n := ((nt : Nat) : Int).toNat) (fun i σ H' => Stp box l H H' ∧ ∃ (zs : List V) (ts : List (Tie F.F)) (z7 z9 z10 z11 z12 : Option V), H' L = some (.lst zs) ∧ TiesT K H' F zs ts ∧ ts.length = i ∧ (∀ t ∈ ts, TieOk F (List.replicate (1 + ma) rm) t) ∧
        σ = [some (.ref box), some (.int a), some (.int (mp : Nat)), some (.int (mt : Nat)), some (.int (mr : Nat)), some (.int (1 + (ma : Nat))), some (.int (rm : Nat)), some (.ref L), z7, z9, z10, z11, z12]) ?_ ?_ ?_⟩
    · exact ⟨(st.same sL).trans st5, [], [], none, none, none, none, none, st5.keep _ _ nLb upd_same, .nil, rfl, (fun t h => by cases h), rfl⟩
    · rintro i σ H6 hi ⟨s6, zs, ts, z7, z9, z10, z11, z12, hL6, hT, lt, hok, rfl⟩
      refine ⟨_, rfl, _, rfl, box, l, _, rfl, s6.box, by omega, log_small (by omega) (by omega), fun H7 on st7 on0 on1 => ?_⟩
      obtain ⟨on, rfl⟩ := Int.eq_ofNat_of_zero_le on0
      refine ⟨_, rfl, _, rfl, box, l, _, rfl, st7.box, by omega, log_small (by omega) (by omega), fun H8 ot st8 ot0 ot1 => ?_⟩
      obtain ⟨ot, rfl⟩ := Int.eq_ofNat_of_zero_le ot0
      refine ⟨_, rfl, _, rfl, _, rfl, box, l, a, rm, F, rfl, st8.box, hf, by omega, fun H9 v1 T1 st9 hT1 ok1 => ?_⟩
      refine ⟨_, rfl, box, l, _, rfl, st9.box, by decide, by decide +kernel, fun H10 d st10 d0 d1 => ?_⟩
      have s10 := ((st7.trans st8).trans st9).trans st10
      have hT1' := hT1.tk (Tk.stp (K := K) st9.box st10)
      have rm3 : rm ≤ 3 := by omega
      have inv : ∀ {H12 : Hp} {v2 : V} {T2 : List (List F.F)}, Stp box l H10 H12 → TabT K H12 F v2 T2 → TabOk F T2 rm rm → H12 L = some (.lst zs) ∧ ∀ p, H12 p = none →
          (upd H12 p (.tup [.int (on : Nat), .int (ot : Nat), .int (rm : Nat), v1, v2])) L = some (.lst zs) ∧
          (Stp box l H (upd (upd H12 p (.tup [.int (on : Nat), .int (ot : Nat), .int (rm : Nat), v1, v2])) L (.lst (zs ++ [.ref p]))) ∧
           TiesT K (upd (upd H12 p (.tup [.int (on : Nat), .int (ot : Nat), .int (rm : Nat), v1, v2])) L (.lst (zs ++ [.ref p]))) F (zs ++ [.ref p]) (ts ++ [⟨on, ot, rm, T1, T2⟩]) ∧
           ∀ t ∈ ts ++ [⟨on, ot, rm, T1, T2⟩], TieOk F (List.replicate (1 + ma) rm) t) := fun {H12 v2 T2} s12 hT2 ok2 => by
        have hL12 := s12.keep _ _ nLb (s10.keep _ _ nLb hL6)
        refine ⟨hL12, fun p hp => ?_⟩
        have sp := same_new (o := .tup [.int (on : Nat), .int (ot : Nat), .int (rm : Nat), v1, v2]) hp
        have hL13 := sp _ _ hL12
        have tp := Tk.put (K := K) (o := .lst (zs ++ [.ref p])) hL13
        have s13 := (s10.trans s12).same sp
        refine ⟨hL13, (s6.trans s13).put hb fL, ?_, fun t ht => ?_⟩
        · exact TiesT.snoc ⟨p, v1, v2, rfl, tp _ _ (SqT.of upd_same), hT1'.tk (((Tk.stp s10.box s12).trans (Tk.same sp)).trans tp), hT2.tk ((Tk.same sp).trans tp)⟩ (hT.tk ((Tk.stp s6.box s13).trans tp))
        · rcases List.mem_append.mp ht with ht | ht
          · exact hok t ht
          · rw [List.mem_singleton.mp ht]
            exact ⟨by rw [List.length_replicate]; show on < 1 + ma; omega, by rw [List.length_replicate]; show ot < 1 + ma; omega, rm3, by rw [hgd on (by omega)]; exact ok1, by rw [hgd ot (by omega)]; exact ok2⟩
      have lzs := hT.len
      refine ⟨_, _, rfl, rfl, _, rfl, ite2 (fun e => ?_) (fun e => ?_)⟩
      · obtain ⟨hL12, iv⟩ := inv (Stp.refl st10.box) hT1' ok1
        refine ⟨_, rfl, _, rfl, .inl ⟨rfl, _, SqL.of hL12⟩, _, rfl, _, rfl, _, rfl, _, rfl, _, rfl, (by show 5 ≤ sizeLine; decide), fun p hp => ?_⟩
        obtain ⟨i0, i1, i2, i3⟩ := iv p hp
        exact ⟨L, zs, _, rfl, rfl, i0, small1000 (by omega), i1, _, _, _, _, _, _, _, upd_same, i2, by rw [List.length_append, lt]; rfl, i3, rfl⟩
      · refine ⟨_, rfl, _, rfl, _, rfl, box, l, a, rm, F, rfl, st10.box, hf, rm3, fun H12 v2 T2 st12 hT2 ok2 => ?_⟩
        obtain ⟨hL12, iv⟩ := inv st12 hT2 ok2
        refine ⟨_, rfl, .inl ⟨rfl, _, SqL.of hL12⟩, _, rfl, _, rfl, _, rfl, _, rfl, _, rfl, (by show 5 ≤ sizeLine; decide), fun p hp => ?_⟩
        obtain ⟨i0, i1, i2, i3⟩ := iv p hp
        exact ⟨L, zs, _, rfl, rfl, i0, small1000 (by omega), i1, _, _, _, _, _, _, _, upd_same, i2, by rw [List.length_append, lt]; rfl, i3, rfl⟩
    · rintro σ H6 ⟨s6, zs, ts, z7, z9, z10, z11, z12, hL6, hT, lt, hok, rfl⟩
      refine ⟨_, rfl, _, rfl, (by show 1 ≤ sizeLine; decide), fun p1 n1 => ?_⟩
      have t1 := same_new (o := .tup [.int (rm : Nat)]) n1
      refine ⟨_, rfl, p1, 1 + ma, _, rfl, by simp, SqT.of upd_same, by simp, by omega, (by show 1 ≤ 1000; decide), fun H7 p2 t2 hp2 => ?_⟩
      rw [flat_reps] at hp2
      have hL7 := t2 _ _ (t1 _ _ hL6)
      refine ⟨_, rfl, L, zs, rfl, .inl ⟨SqL.of hL7, fun pb hpb => ?_⟩⟩
      have sb := same_new (o := .tup zs) hpb
      refine ⟨(by show 3 ≤ sizeLine; decide), fun pc hpc => ?_⟩
      have sc := same_new (o := .tup [.int a, .ref p2, .ref pb]) hpc
      have eI : intsV (List.replicate (1 + ma) rm) = List.replicate (1 + ma) (V.int (rm : Nat)) := List.map_replicate ..
      refine q _ _ (List.replicate (1 + ma) rm) ts ((((s6.same t1).same t2).same sb).same sc) ⟨pc, p2, pb, zs, rfl, SqT.of upd_same, ?_, SqT.of (sc _ _ upd_same), hT.tk ((((Tk.same t1).trans (Tk.same t2)).trans (Tk.same sb)).trans (Tk.same sc))⟩ ⟨by rw [List.length_replicate]; omega, by rw [List.length_replicate]; omega, fun n h => ?_, by omega, hok⟩
      · rw [eI]
        exact Same.seqT sc (Same.seqT sb hp2)
      · rw [List.eq_of_mem_replicate h]
        omega

open Lin
def spSome (K : PySem.W.Frag) : Sp := fun vs H Q _ => ∃ (box l : Addr) (mp mt mr : Nat), vs = [.ref box, .int (mp : Nat), .int (mt : Nat), .int (mr : Nat)] ∧ BoxAt H box l ∧ 1 ≤ mp ∧ mp ≤ 8 ∧ mt ≤ 12 ∧ mr ≤ 3 ∧ ∀ H' v (f : Int) (F : Fd f) (sz : List Nat) (ts : List (Tie F.F)), Stp box l H H' → IsF f → WebT K H' F v sz ts → WebOk F sz ts → Q v H'
theorem len__law_some_web {K vs H Q E} (h : spSome K vs H Q E) : vs.length = (["_law_box", "_law_most_places", "_law_most_ties", "_law_most_room"] : List Str).length := by
  obtain ⟨box, l, mp, mt, mr, rfl, _⟩ := h
  rfl
theorem d__law_some_web {P : Program} {w : World} {K : PySem.W.Frag} {mg : Str → Option Value} {base : Heap} (R : Raw K mg "_law_some_web" s__law_some_web) (B : Bn mg) (D__law_field : Def P w K mg base "_law_field" 3 ["_law_box"] (spField)) (D__law_web : Def P w K mg base "_law_web" 6 ["_law_box", "_law_field_here", "_law_most_places", "_law_most_ties", "_law_most_room"] (spWeb K)) (D__law_draw : Def P w K mg base "_law_draw" 1 ["_law_box", "_law_many"] (spDraw)) (D__law_stiff_web : Def P w K mg base "_law_stiff_web" 6 ["_law_box", "_law_field_here", "_law_most_places", "_law_most_ties", "_law_most_room"] (spWeb K)) : Def P w K mg base "_law_some_web" 7 ["_law_box", "_law_most_places", "_law_most_ties", "_law_most_room"] (spSome K) := by
  obtain ⟨f, fd, F, m⟩ := R
  obtain ⟨f__law_field, fd__law_field, G__law_field, m__law_field, k__law_field, b__law_field⟩ := D__law_field
  obtain ⟨f__law_web, fd__law_web, G__law_web, m__law_web, k__law_web, b__law_web⟩ := D__law_web
  obtain ⟨f__law_draw, fd__law_draw, G__law_draw, m__law_draw, k__law_draw, b__law_draw⟩ := D__law_draw
  obtain ⟨f__law_stiff_web, fd__law_stiff_web, G__law_stiff_web, m__law_stiff_web, k__law_stiff_web, b__law_stiff_web⟩ := D__law_stiff_web
  refine ⟨f, fd, F.ok sc__law_some_web (fun vs H Q E h => ?_) (fun cdv A outer s H vs Q E hr h => ?_), m, F.kp, F.binds (ps := ["_law_box", "_law_most_places", "_law_most_ties", "_law_most_room"]) fun _ _ _ _ _ _ us hl => match us, hl with | [_, _, _, _], _ => rfl⟩
  · exact len__law_some_web h

  · obtain ⟨box, l, mp, mt, mr, rfl, hb, p1, p8, t12, r3, q⟩ := h
    refine ⟨_, (pss_cons (ps_set (i := 4) sc__law_some_web.nd rfl (Or.inl rfl) (pe_call G__law_field (hr.mono (by omega)) (by rfl) m__law_field k__law_field b__law_field .nil pass0 (pa_cons (pv 0) pa_nil))) (pss_cons (ps_if (pt_cmpR op_eq (pe_call G__law_draw (hr.mono (by omega)) (by rfl) m__law_draw k__law_draw b__law_draw .nil pass0 (pa_cons (pv 0) (pa_cons pe_int pa_nil))) pe_int (nomark _)) (pss_one (ps_ret (pe_call G__law_stiff_web (hr.mono (by omega)) (by rfl) m__law_stiff_web k__law_stiff_web b__law_stiff_web .nil pass0 (pa_cons (pv 0) (pa_cons (pv 4) (pa_cons (pv 1) (pa_cons (pv 2) (pa_cons (pv 3) pa_nil)))))))) pss_nil) (pss_cons (ps_if (pt_cmpR op_eq (pe_call G__law_draw (hr.mono (by omega)) (by rfl) m__law_draw k__law_draw b__law_draw .nil pass0 (pa_cons (pv 0) (pa_cons pe_int pa_nil))) pe_int (nomark _)) (pss_one (ps_ret (pe_call G__law_web (hr.mono (by omega)) (by rfl) m__law_web k__law_web b__law_web .nil pass0 (pa_cons (pv 0) (pa_cons (pv 4) (pa_cons pe_int (pa_cons pe_int (pa_cons pe_int pa_nil)))))))) pss_nil) (pss_one (ps_ret (pe_call G__law_web (hr.mono (by omega)) (by rfl) m__law_web k__law_web b__law_web .nil pass0 (pa_cons (pv 0) (pa_cons (pv 4) (pa_cons (pv 1) (pa_cons (pv 2) (pa_cons (pv 3) pa_nil))))))))))), ?_⟩
    refine ⟨_, rfl, box, l, rfl, hb, fun H1 a st1 hf => ?_⟩
    obtain ⟨F⟩ := fd_ex hf
    refine ⟨_, rfl, box, l, _, rfl, st1.box, by decide, by decide +kernel, fun H2 d st2 d0 d1 => ?_⟩
    have s2 := st1.trans st2
    refine ⟨rfl, _, rfl, ite2 (fun e => ?_) (fun e => ?_)⟩
    · exact ⟨_, rfl, _, rfl, _, rfl, _, rfl, _, rfl, box, l, a, mp, mt, mr, F, rfl, st2.box, hf, p1, p8, t12, r3, fun H3 v sz ts st3 hv ok => q _ _ a F sz ts (s2.trans st3) hf hv ok⟩
    · refine ⟨_, rfl, box, l, _, rfl, st2.box, by decide, by decide +kernel, fun H3 d' st3 d0' d1' => ?_⟩
      have s3 := s2.trans st3
      refine ⟨rfl, _, rfl, ite2 (fun e => ?_) (fun e => ?_)⟩
      · exact ⟨_, rfl, _, rfl, box, l, a, 8, 12, 1, F, rfl, st3.box, hf, by decide, by decide, by decide, by decide, fun H4 v sz ts st4 hv ok => q _ _ a F sz ts (s3.trans st4) hf hv ok⟩
      · exact ⟨_, rfl, _, rfl, _, rfl, _, rfl, _, rfl, box, l, a, mp, mt, mr, F, rfl, st3.box, hf, p1, p8, t12, r3, fun H4 v sz ts st4 hv ok => q _ _ a F sz ts (s3.trans st4) hf hv ok⟩

def rLen (K : PySem.W.Frag) : List V → Hp → VK → Prop := fun xs H Q => ∃ p ys, xs = [.ref p] ∧ (SqL K H p ys ∨ SqT K H p ys) ∧ Q (.int ys.length) H
theorem cr_len {X : Cx} : CallR X (.builtin "len") (rLen X.K) := call_len_seq

open Lin
/-! ## stalkweb.webs: what is one -/
def WebAt (mg : Str → Option Value) : Prop := (∃ t, mg "MOST_PLACES" = some (.int 8 t)) ∧ (∃ t, mg "MOST_TIES" = some (.int 12 t)) ∧ (∃ t, mg "MOST_ROOM" = some (.int 3 t)) ∧ ∃ t, mg "MOST_FIGURE" = some (.int 99 t)
def spIsRoom : Sp := fun vs H Q _ => ∃ i : Int, vs = [.int i] ∧ 0 ≤ i ∧ i ≤ 3 ∧ Q (.bl true) H
theorem len_is_room {vs H Q E} (h : spIsRoom vs H Q E) : vs.length = (["room"] : List Str).length := by
  obtain ⟨f, rfl, _⟩ := h
  rfl
theorem d_is_room {P : Program} {w : World} {K : PySem.W.Frag} {mg : Str → Option Value} {base : Heap} (R : Raw K mg "is_room" s_is_room) (WT : WebAt mg)  : Def P w K mg base "is_room" 1 ["room"] (spIsRoom) := by
  obtain ⟨f, fd, F, m⟩ := R
  refine ⟨f, fd, F.ok sc_is_room (fun vs H Q E h => ?_) (fun cdv A outer s H vs Q E hr h => ?_), m, F.kp, F.binds (ps := ["room"]) fun _ _ _ _ _ _ us hl => match us, hl with | [_], _ => rfl⟩
  · exact len_is_room h

  · obtain ⟨i, rfl, i0, i3, q⟩ := h
    obtain ⟨_, _, ⟨t3, m_MOST_ROOM⟩, _⟩ := WT
    refine ⟨_, (pss_one (ps_ret (pe_chain op_le op_le pe_int (pv 0) (pe_glob (v := V.int 3) (by rfl) m_MOST_ROOM ⟨_, rfl⟩)))), ?_⟩
    refine ⟨_, rfl, _, _, rfl, rfl, _, rfl, ite2 (fun e => ?_) (fun e => absurd (decide_eq_true i0) e)⟩
    refine ⟨_, _, rfl, rfl, ?_⟩
    show Q (.bl (decide (i ≤ (3 : Int)))) H
    rw [decide_eq_true i3]
    exact q
def spIsPlace (K : PySem.W.Frag) : Sp := fun vs H Q _ => ∃ (p : Addr) (xs : List V) (i : Int), vs = [.ref p, .int i] ∧ SqT K H p xs ∧ (0 ≤ i ∧ i < (xs.length : Int) → Q (.bl true) H) ∧ (¬ (0 ≤ i ∧ i < (xs.length : Int)) → Q (.bl false) H)
theorem len_is_place {K vs H Q E} (h : spIsPlace K vs H Q E) : vs.length = (["sizes", "place"] : List Str).length := by
  obtain ⟨p, xs, i, rfl, _⟩ := h
  rfl
theorem d_is_place {P : Program} {w : World} {K : PySem.W.Frag} {mg : Str → Option Value} {base : Heap} (R : Raw K mg "is_place" s_is_place) (B : Bn mg)  : Def P w K mg base "is_place" 1 ["sizes", "place"] (spIsPlace K) := by
  obtain ⟨f, fd, F, m⟩ := R
  refine ⟨f, fd, F.ok sc_is_place (fun vs H Q E h => ?_) (fun cdv A outer s H vs Q E hr h => ?_), m, F.kp, F.binds (ps := ["sizes", "place"]) fun _ _ _ _ _ _ us hl => match us, hl with | [_, _], _ => rfl⟩
  · exact len_is_place h

  · obtain ⟨p, xs, i, rfl, hp, q1, q2⟩ := h
    refine ⟨_, (pss_one (ps_ret (pe_chain op_le op_lt pe_int (pv 1) (pe_callB call_len_seq (by rfl) B.len PySem.boot_len (pa_cons (pv 0) pa_nil))))), ?_⟩
    refine ⟨_, rfl, _, _, rfl, rfl, _, rfl, ite2 (fun e => ?_) (fun e => ?_)⟩
    · have e : (0 : Int) ≤ i := of_decide_eq_true e
      refine ⟨_, rfl, p, xs, rfl, .inr hp, _, _, rfl, rfl, ?_⟩
      show Q (.bl (decide (i < (xs.length : Int)))) H
      by_cases c : i < (xs.length : Int)
      · rw [decide_eq_true c]
        exact q1 ⟨e, c⟩
      · rw [decide_eq_false c]
        exact q2 fun z => c z.2
    · have e : ¬ (0 : Int) ≤ i := fun z => e (decide_eq_true z)
      exact q2 fun z => e z.1
def spShort (K : PySem.W.Frag) : Sp := fun vs H Q _ => ∃ (f : Int) (v : V) (x : Pr), vs = [.int f, v] ∧ NumV K H v x ∧ IsN f x ∧ S99 x ∧ Q (.bl true) H
theorem len_is_short {K vs H Q E} (h : spShort K vs H Q E) : vs.length = (["field", "number"] : List Str).length := by
  obtain ⟨f, v, x, rfl, _⟩ := h
  rfl
theorem d_is_short {P : Program} {w : World} {K : PySem.W.Frag} {mg : Str → Option Value} {base : Heap} (R : Raw K mg "is_short" s_is_short) (WT : WebAt mg) (D_fits : Def P w K mg base "fits" 1 ["field", "number"] (spFits K)) : Def P w K mg base "is_short" 2 ["field", "number"] (spShort K) := by
  obtain ⟨f, fd, F, m⟩ := R
  obtain ⟨f_fits, fd_fits, G_fits, m_fits, k_fits, b_fits⟩ := D_fits
  refine ⟨f, fd, F.ok sc_is_short (fun vs H Q E h => ?_) (fun cdv A outer s H vs Q E hr h => ?_), m, F.kp, F.binds (ps := ["field", "number"]) fun _ _ _ _ _ _ us hl => match us, hl with | [_, _], _ => rfl⟩
  · exact len_is_short h

  · obtain ⟨a, v, x, rfl, hv, hN, hS, q⟩ := h
    obtain ⟨_, _, _, t3, m_MOST_FIGURE⟩ := WT
    refine ⟨_, (pss_cons (ps_asg (pv 1) (pg_tup (by rfl) (pgs_cons (pg_name (i := 2) sc_is_short.nd rfl (Or.inl rfl)) (pgs_cons (pg_name (i := 3) sc_is_short.nd rfl (Or.inl rfl)) pgs_nil)))) (pss_one (ps_ret (pe_and (pe_chain op_le op_le (pe_un un_neg (pe_glob (v := V.int 99) (by rfl) m_MOST_FIGURE ⟨_, rfl⟩)) (pv 2) (pe_glob (v := V.int 99) (by rfl) m_MOST_FIGURE ⟨_, rfl⟩)) (pe_and (pe_cmpR op_le (pv 3) (pe_glob (v := V.int 99) (by rfl) m_MOST_FIGURE ⟨_, rfl⟩) (nomark _)) (pe_one (pe_call G_fits (hr.mono (by omega)) (by rfl) m_fits k_fits b_fits .nil pass0 (pa_cons (pv 0) (pa_cons (pv 1) pa_nil))))))))), ?_⟩
    obtain ⟨p, rfl, hp⟩ := id hv
    refine ⟨_, rfl, p, _, rfl, hp, rfl, _, _, rfl, _, _, rfl, rfl, ?_⟩
    obtain ⟨h1, h2⟩ := hS
    refine ⟨_, rfl, _, rfl, _, _, rfl, rfl, _, rfl, ite2 (fun _ => ?_) (fun e => absurd (decide_eq_true (show (-99 : Int) ≤ x.1 by omega)) e)⟩
    refine ⟨_, _, rfl, rfl, _, rfl, ite2 (fun _ => ?_) (fun e => absurd (decide_eq_true (show x.1 ≤ (99 : Int) by omega)) e)⟩
    refine ⟨_, rfl, _, _, rfl, rfl, _, rfl, ite2 (fun _ => ?_) (fun e => absurd (decide_eq_true (show x.2 ≤ (99 : Int) by omega)) e)⟩
    refine ⟨_, rfl, _, rfl, a, .ref p, x, rfl, hv, ?_⟩
    rw [isNB_iff.mpr hN]
    exact q
def spIsTab (K : PySem.W.Frag) : Sp := fun vs H Q _ => ∃ (f : Int) (F : Fd f) (v : V) (T : List (List F.F)) (r w : Nat), vs = [.int f, v, .int (r : Nat), .int (w : Nat)] ∧ TabT K H F v T ∧ TabOk F T r w ∧ r ≤ 3 ∧ w ≤ 3 ∧ ∀ H', Same H H' → Q (.bl true) H'
theorem len_is_table {K vs H Q E} (h : spIsTab K vs H Q E) : vs.length = (["field", "table", "room", "length"] : List Str).length := by
  obtain ⟨f, F, v, T, r, w, rfl, _⟩ := h
  rfl
theorem d_is_table {P : Program} {w : World} {K : PySem.W.Frag} {mg : Str → Option Value} {base : Heap} (R : Raw K mg "is_table" s_is_table) (B : Bn mg) (D_is_short : Def P w K mg base "is_short" 2 ["field", "number"] (spShort K)) : Def P w K mg base "is_table" 3 ["field", "table", "room", "length"] (spIsTab K) := by
  obtain ⟨f, fd, F, m⟩ := R
  obtain ⟨f_is_short, fd_is_short, G_is_short, m_is_short, k_is_short, b_is_short⟩ := D_is_short
  refine ⟨f, fd, F.ok sc_is_table (fun vs H Q E h => ?_) (fun cdv A outer s H vs Q E hr h => ?_), m, F.kp, F.binds (ps := ["field", "table", "room", "length"]) fun _ _ _ _ _ _ us hl => match us, hl with | [_, _, _, _], _ => rfl⟩
  · exact len_is_table h

  · obtain ⟨a, F, v, T, r, w, rfl, hT, ok, r3, w3, q⟩ := h
    refine ⟨_, (pss_cons (ps_if (PW.pt (pw_or (pt_cmpR op_ne (pe_callB call_len_seq (by rfl) B.len PySem.boot_len (pa_cons (pv 1) pa_nil)) (pv 2) (nomark _)) (pw_or1 (pt_val (pe_callB (cr_any rfl) (by rfl) B.any (by decide +kernel) (pa_cons (pe_lc (own := [("row", 4)]) (g := gName 4) (tt := tYes) rfl sc_is_table.nd (pi_tup (pv 1)) (blkOk_by (N := ["field", "table", "room", "length", "row", "number"]) (sc := defScope s_is_table) (by decide +kernel)) (fun _ _ _ _ _ => pg_name (i := 4) sc_is_table.nd rfl (Or.inl rfl)) (fun _ _ _ _ _ => pts_nil) (fun _ _ _ _ _ => (pe_cmpR op_ne (pe_callB (show CallR _ _ (rLen K) from cr_len) (by rfl) B.len PySem.boot_len (pa_cons (pv 4) pa_nil)) (pv 3) (nomark _)))) pa_nil)))))) (pss_one (ps_ret pe_bl)) pss_nil) (pss_one (ps_ret (pe_callB (cr_all rfl) (by rfl) B.all (by decide +kernel) (pa_cons (pe_lc2 (own := [("row", 4), ("number", 5)]) (vs1 := [5]) (g := (gName 4)) (g1 := (gName 5)) (tt := tYes) (tt1 := tYes) rfl sc_is_table.nd (pi_tup (pv 1)) (blkOk_by (N := ["field", "table", "room", "length", "row", "number"]) (sc := defScope s_is_table) (by decide +kernel)) (by decide) (fun _ _ _ _ _ => pg_name (i := 4) sc_is_table.nd rfl (Or.inl rfl)) (fun _ _ _ _ _ => pts_nil) (fun _ _ _ _ _ => (show PI _ _ _ (ZM.iSq K (tVar 4)) from ZM.pi_sq (pv 4))) (fun _ _ _ _ _ => pg_name (i := 5) sc_is_table.nd rfl (Or.inl rfl)) (fun _ _ _ _ _ => pts_nil) (fun _ _ _ _ _ => (pe_call G_is_short (hr.mono (by omega)) (by rfl) m_is_short k_is_short b_is_short .nil pass0 (pa_cons (pv 0) (pa_cons (pv 5) pa_nil))))) pa_nil))))), ?_⟩
    obtain ⟨p, xs, rfl, hp, hx⟩ := id hT
    have lx := hx.len
    have lT := ok.len
    refine ⟨_, rfl, p, xs, rfl, .inr hp, _, rfl, rfl, _, rfl, ite2 (fun e => ?_) (fun _ => ?_)⟩
    · exfalso
      have e := neE e
      omega
    refine ⟨_, rfl, p, rfl, ⟨_, hp⟩, fun D hD => lc_tup (K := K) (a := p) (xs := xs) (fun i H' => Same H H' ∧ H' D = some (.lst (List.replicate i (V.bl false)))) ⟨same_new hD, upd_same⟩ (fun i H' _ ⟨s, _⟩ => Same.seqT s hp) ?_ ?_⟩
    · rintro i x H2 hi ⟨s, hD'⟩
      obtain ⟨l, e1, h1⟩ := hx.pickV hi
      have hwl := ok.wide l (List.mem_of_getElem? e1)
      obtain ⟨pr, ys, rfl, hy, hn⟩ := h1.same s
      have ly := hn.len
      rw [List.length_map, hwl] at ly
      have hil := (List.getElem?_eq_some_iff.mp hi).1
      refine ⟨rfl, tYes_of (iteT ⟨_, rfl, pr, ys, rfl, .inr hy, _, rfl, rfl, _, hD', by rw [List.length_replicate]; exact small1000 (by omega), same_seqT_upd s hD hD', ?_⟩)⟩
      rw [upd_same, List.replicate_succ', ly, decide_eq_true (rfl : V.int (w : Nat) = V.int (w : Nat))]
      rfl
    · rintro H2 ⟨s, hD'⟩
      refine ⟨D, List.replicate xs.length false, rfl, ?_, ?_⟩
      · rw [List.map_replicate]
        exact SqL.of hD'
      · have e : (List.replicate xs.length false).any id = false := by simp
        rw [e]
        refine ⟨_, rfl, iteF ?_⟩
        have hp2 := Same.seqT s hp
        have hx2 := hx.same s
        refine ⟨_, rfl, p, rfl, ⟨_, hp2⟩, fun D2 hD2 => two_out (walk_tup (K := K) (a := p) (xs := xs)) (fun i H' => Same H2 H' ∧ H' D2 = some (.lst (List.replicate (i * w) (V.bl true)))) ⟨same_new hD2, by rw [Nat.zero_mul]; exact upd_same⟩ (fun i H' _ ⟨s, _⟩ => Same.seqT s hp2) ?_ ?_⟩
        · rintro i x H3 H4 hi ⟨s3, hD3⟩ ⟨rfl, hxi⟩
          obtain ⟨l, e1, h1⟩ := hx2.pickV hxi
          have hml := List.mem_of_getElem? e1
          have hwl := ok.wide l hml
          obtain ⟨pr, ys, rfl, hy, hn⟩ := h1.same s3
          have ly := hn.len
          rw [List.length_map, hwl] at ly
          refine ⟨rfl, _, rfl, true, pr, ys, rfl, hy, two_in (ZM.walkS (K := K) (t := true) (a := pr) (xs := ys)) (fun j H' => Same H2 H' ∧ Tk K H4 H' ∧ H' D2 = some (.lst (List.replicate (i * w + j) (V.bl true)))) ⟨s3, Tk.refl K H4, hD3⟩ (fun j H' _ ⟨_, s, _⟩ => s _ _ hy) ?_ ?_⟩
          · rintro j y H5 H6 hj ⟨s5, s45, hD5⟩ ⟨rfl, hyj⟩
            obtain ⟨x2, e3, n2⟩ := hn.pick (i := j) (by omega)
            cases hyj.symm.trans e3
            letI := F.fld
            letI := F.dec
            have hx4 := List.mem_of_getElem? (vec_lt (l := l) (j := j) (by omega))
            have hij : i * w + j ≤ 1000 := by
              have := Nat.mul_le_mul (show i ≤ 3 by omega) w3
              omega
            refine ⟨rfl, _, rfl, _, rfl, a, y, F.enc (vec l j), rfl, n2.tk s45, F.num _, ok.sm l hml _ hx4, ?_⟩
            refine ⟨_, hD5, by rw [List.length_replicate]; exact small1000 hij, same_seqT_upd s5 hD2 hD5, s45.trans (Tk.put hD5), by rw [upd_same, ← Nat.add_assoc, List.replicate_succ']⟩
          · rintro H5 ⟨s5, s45, hD5⟩
            refine ⟨s5, ?_⟩
            rw [hD5, ly, Nat.add_mul, Nat.one_mul]
        · rintro H3 ⟨s3, hD3⟩
          refine ⟨D2, List.replicate (xs.length * w) true, rfl, ?_, ?_⟩
          · rw [List.map_replicate]
            exact SqL.of hD3
          · have e : (List.replicate (xs.length * w) true).all id = true := by simp
            rw [e]
            exact q _ (s.trans s3)

open Lin
def spIsTie (K : PySem.W.Frag) : Sp := fun vs H Q _ => ∃ (f : Int) (F : Fd f) (p : Addr) (sz : List Nat) (v : V) (t : Tie F.F), vs = [.int f, .ref p, v] ∧ SqT K H p (intsV sz) ∧ (∀ n ∈ sz, n ≤ 3) ∧ TieT K H F v t ∧ TieOk F sz t ∧ ∀ H', Same H H' → Q (.bl true) H'
theorem len_is_tie {K vs H Q E} (h : spIsTie K vs H Q E) : vs.length = (["field", "sizes", "tie"] : List Str).length := by
  obtain ⟨f, F, p, sz, v, t, rfl, _⟩ := h
  rfl
theorem intsV_len {sz : List Nat} : (intsV sz).length = sz.length := List.length_map ..
theorem d_is_tie {P : Program} {w : World} {K : PySem.W.Frag} {mg : Str → Option Value} {base : Heap} (R : Raw K mg "is_tie" s_is_tie) (B : Bn mg) (D_is_table : Def P w K mg base "is_table" 3 ["field", "table", "room", "length"] (spIsTab K)) (D_is_place : Def P w K mg base "is_place" 1 ["sizes", "place"] (spIsPlace K)) (D_is_room : Def P w K mg base "is_room" 1 ["room"] (spIsRoom)) : Def P w K mg base "is_tie" 4 ["field", "sizes", "tie"] (spIsTie K) := by
  obtain ⟨f, fd, F, m⟩ := R
  obtain ⟨f_is_table, fd_is_table, G_is_table, m_is_table, k_is_table, b_is_table⟩ := D_is_table
  obtain ⟨f_is_place, fd_is_place, G_is_place, m_is_place, k_is_place, b_is_place⟩ := D_is_place
  obtain ⟨f_is_room, fd_is_room, G_is_room, m_is_room, k_is_room, b_is_room⟩ := D_is_room
  refine ⟨f, fd, F.ok sc_is_tie (fun vs H Q E h => ?_) (fun cdv A outer s H vs Q E hr h => ?_), m, F.kp, F.binds (ps := ["field", "sizes", "tie"]) fun _ _ _ _ _ _ us hl => match us, hl with | [_, _, _], _ => rfl⟩
  · exact len_is_tie h

  · obtain ⟨a, F, p, sz, v, t, rfl, hp, hsz, hT, ok, q⟩ := h
    refine ⟨_, (pss_cons (ps_asg (pv 2) (pg_tup (by rfl) (pgs_cons (pg_name (i := 3) sc_is_tie.nd rfl (Or.inl rfl)) (pgs_cons (pg_name (i := 4) sc_is_tie.nd rfl (Or.inl rfl)) (pgs_cons (pg_name (i := 5) sc_is_tie.nd rfl (Or.inl rfl)) (pgs_cons (pg_name (i := 6) sc_is_tie.nd rfl (Or.inl rfl)) (pgs_cons (pg_name (i := 7) sc_is_tie.nd rfl (Or.inl rfl)) pgs_nil))))))) (pss_cons (ps_if (pt_not (PW.pt (pw_and (pt_val (pe_call G_is_place (hr.mono (by omega)) (by rfl) m_is_place k_is_place b_is_place .nil pass0 (pa_cons (pv 1) (pa_cons (pv 3) pa_nil)))) (pw_and (pt_val (pe_call G_is_place (hr.mono (by omega)) (by rfl) m_is_place k_is_place b_is_place .nil pass0 (pa_cons (pv 1) (pa_cons (pv 4) pa_nil)))) (pw_and1 (pt_val (pe_call G_is_room (hr.mono (by omega)) (by rfl) m_is_room k_is_room b_is_room .nil pass0 (pa_cons (pv 5) pa_nil)))))))) (pss_one (ps_ret pe_bl)) pss_nil) (pss_one (ps_ret (pe_and (pe_call G_is_table (hr.mono (by omega)) (by rfl) m_is_table k_is_table b_is_table .nil pass0 (pa_cons (pv 0) (pa_cons (pv 6) (pa_cons (pv 5) (pa_cons (pe_ix ix_tup (pv 1) (pv 3) (fun _ _ => rfl)) pa_nil))))) (pe_one (pe_call G_is_table (hr.mono (by omega)) (by rfl) m_is_table k_is_table b_is_table .nil pass0 (pa_cons (pv 0) (pa_cons (pv 7) (pa_cons (pv 5) (pa_cons (pe_ix ix_tup (pv 1) (pv 4) (fun _ _ => rfl)) pa_nil))))))))))), ?_⟩
    obtain ⟨pt, x, y, rfl, ht, hx, hy⟩ := id hT
    have w1 : sz.getD t.one 0 ≤ 3 := getD_le hsz
    have w2 : sz.getD t.other 0 ≤ 3 := getD_le hsz
    have r3 := ok.room
    refine ⟨_, rfl, pt, _, rfl, ht, rfl, _, _, rfl, _, _, rfl, _, _, rfl, _, _, rfl, _, _, rfl, rfl, ?_⟩
    have inone : 0 ≤ ((t.one : Nat) : Int) ∧ ((t.one : Nat) : Int) < ((intsV sz).length : Int) := ⟨by omega, by rw [intsV_len]; have := ok.one; omega⟩
    refine ⟨_, rfl, _, rfl, p, _, ((t.one : Nat) : Int), rfl, hp, fun _ => ⟨_, rfl, iteT ?_⟩, fun n => absurd inone n⟩
    have inother : 0 ≤ ((t.other : Nat) : Int) ∧ ((t.other : Nat) : Int) < ((intsV sz).length : Int) := ⟨by omega, by rw [intsV_len]; have := ok.other; omega⟩
    refine ⟨_, rfl, _, rfl, p, _, ((t.other : Nat) : Int), rfl, hp, fun _ => ⟨_, rfl, iteT ?_⟩, fun n => absurd inother n⟩
    refine ⟨_, rfl, _, rfl, by omega, by omega, _, rfl, iteF ?_⟩
    refine ⟨_, rfl, _, rfl, _, rfl, _, rfl, _, rfl, p, _, _, _, rfl, rfl, hp, ints_at ok.one, a, F, x, t.fst, t.room, sz.getD t.one 0, rfl, hx, ok.fst, r3, w1, fun H1 s1 => ⟨_, rfl, iteT ?_⟩⟩
    refine ⟨_, rfl, _, rfl, _, rfl, _, rfl, _, rfl, p, _, _, _, rfl, rfl, Same.seqT s1 hp, ints_at ok.other, a, F, y, t.snd, t.room, sz.getD t.other 0, rfl, hy.tk (Tk.same s1), ok.snd, r3, w2, fun H2 s2 => q _ (s1.trans s2)⟩
def spIsWeb (K : PySem.W.Frag) : Sp := fun vs H Q _ => ∃ (f : Int) (F : Fd f) (v : V) (sz : List Nat) (ts : List (Tie F.F)), vs = [v] ∧ IsF f ∧ WebT K H F v sz ts ∧ WebOk F sz ts ∧ ∀ H', Same H H' → Q (.bl true) H'
theorem len_is_web {K vs H Q E} (h : spIsWeb K vs H Q E) : vs.length = (["web"] : List Str).length := by
  obtain ⟨f, F, v, sz, ts, rfl, _⟩ := h
  rfl
theorem d_is_web {P : Program} {w : World} {K : PySem.W.Frag} {mg : Str → Option Value} {base : Heap} (R : Raw K mg "is_web" s_is_web) (B : Bn mg) (WT : WebAt mg) (D_check_field : Def P w K mg base "check_field" 2 ["field"] (spChk)) (D_is_room : Def P w K mg base "is_room" 1 ["room"] (spIsRoom)) (D_is_tie : Def P w K mg base "is_tie" 4 ["field", "sizes", "tie"] (spIsTie K)) : Def P w K mg base "is_web" 5 ["web"] (spIsWeb K) := by
  obtain ⟨f, fd, F, m⟩ := R
  obtain ⟨f_check_field, fd_check_field, G_check_field, m_check_field, k_check_field, b_check_field⟩ := D_check_field
  obtain ⟨f_is_room, fd_is_room, G_is_room, m_is_room, k_is_room, b_is_room⟩ := D_is_room
  obtain ⟨f_is_tie, fd_is_tie, G_is_tie, m_is_tie, k_is_tie, b_is_tie⟩ := D_is_tie
  refine ⟨f, fd, F.ok sc_is_web (fun vs H Q E h => ?_) (fun cdv A outer s H vs Q E hr h => ?_), m, F.kp, F.binds (ps := ["web"]) fun _ _ _ _ _ _ us hl => match us, hl with | [_], _ => rfl⟩
  · exact len_is_web h

  · obtain ⟨a, F, v, sz, ts, rfl, hf, hW, ok, q⟩ := h
    obtain ⟨⟨t1, m_MOST_PLACES⟩, ⟨t2, m_MOST_TIES⟩, _⟩ := WT
    refine ⟨_, (pss_cons (ps_asg (pv 0) (pg_tup (by rfl) (pgs_cons (pg_name (i := 1) sc_is_web.nd rfl (Or.inr rfl)) (pgs_cons (pg_name (i := 2) sc_is_web.nd rfl (Or.inr rfl)) (pgs_cons (pg_name (i := 3) sc_is_web.nd rfl (Or.inl rfl)) pgs_nil))))) (pss_cons (ps_expr (pe_call G_check_field (hr.mono (by omega)) (by rfl) m_check_field k_check_field b_check_field .nil pass0 (pa_cons (pv 1) pa_nil))) (pss_cons (ps_if (PW.pt (pw_or (pt_not (pt_chain op_le op_le pe_int (pe_callB call_len_seq (by rfl) B.len PySem.boot_len (pa_cons (pv 2) pa_nil)) (pe_glob (v := V.int 8) (by rfl) m_MOST_PLACES ⟨_, rfl⟩))) (pw_or1 (pt_cmpR op_gt (pe_callB call_len_seq (by rfl) B.len PySem.boot_len (pa_cons (pv 3) pa_nil)) (pe_glob (v := V.int 12) (by rfl) m_MOST_TIES ⟨_, rfl⟩) (nomark _))))) (pss_one (ps_ret pe_bl)) pss_nil) (pss_one (ps_ret (pe_and (pe_callB (cr_all rfl) (by rfl) B.all (by decide +kernel) (pa_cons (pe_lc (own := [("room", 4)]) (g := gName 4) (tt := tYes) rfl sc_is_web.nd (pi_tup (pv 2)) (blkOk_by (N := ["web", "field", "sizes", "ties", "room", "tie"]) (sc := defScope s_is_web) (by decide +kernel)) (fun _ _ _ _ _ => pg_name (i := 4) sc_is_web.nd rfl (Or.inl rfl)) (fun _ _ _ _ _ => pts_nil) (fun _ _ _ _ _ => (pe_call G_is_room (hr.mono (by omega)) (by rfl) m_is_room k_is_room b_is_room .nil pass0 (pa_cons (pv 4) pa_nil)))) pa_nil)) (pe_one (pe_callB (cr_all rfl) (by rfl) B.all (by decide +kernel) (pa_cons (pe_lc (own := [("tie", 5)]) (g := gName 5) (tt := tYes) rfl sc_is_web.nd (pi_tup (pv 3)) (blkOk_by (N := ["web", "field", "sizes", "ties", "room", "tie"]) (sc := defScope s_is_web) (by decide +kernel)) (fun _ _ _ _ _ => pg_name (i := 5) sc_is_web.nd rfl (Or.inl rfl)) (fun _ _ _ _ _ => pts_nil) (fun _ _ _ _ _ => (pe_call G_is_tie (hr.mono (by omega)) (by rfl) m_is_tie k_is_tie b_is_tie .nil pass0 (pa_cons (pv 1) (pa_cons (pv 2) (pa_cons (pv 5) pa_nil)))))) pa_nil))))))))), ?_⟩
    obtain ⟨pw, pa, pb, xs, rfl, hw, ha, hb, hT⟩ := id hW
    have l1 := ok.len0
    have l8 := ok.len8
    have l12 := ok.len12
    have lx := hT.len
    refine ⟨_, rfl, pw, _, rfl, hw, rfl, _, _, rfl, _, _, rfl, _, _, rfl, rfl, ?_⟩
    refine ⟨_, rfl, a, rfl, hf, ?_⟩
    refine ⟨_, rfl, pa, _, rfl, .inr ha, _, _, rfl, rfl, _, rfl, ite2 (fun _ => ?_) (fun e => absurd (decide_eq_true (show (1 : Int) ≤ ((intsV sz).length : Int) by rw [intsV_len]; omega)) e)⟩
    refine ⟨_, _, rfl, rfl, true, congrArg V.bl (decide_eq_true (show ((intsV sz).length : Int) ≤ 8 by rw [intsV_len]; omega)), iteF ?_⟩
    refine ⟨_, rfl, pb, xs, rfl, .inr hb, _, _, rfl, rfl, _, rfl, ite2 (fun e => ?_) (fun _ => ?_)⟩
    · exfalso
      have e := of_decide_eq_true e
      omega
    have lI : (intsV sz).length = sz.length := intsV_len
    refine ⟨_, rfl, pa, rfl, ⟨_, ha⟩, fun D hD => lc_tup (K := K) (a := pa) (xs := intsV sz) (fun i H' => Same H H' ∧ H' D = some (.lst (List.replicate i (V.bl true)))) ⟨same_new hD, upd_same⟩ (fun i H' _ ⟨s, _⟩ => Same.seqT s ha) ?_ ?_⟩
    · rintro i x H2 hi ⟨s, hD'⟩
      have hil := (List.getElem?_eq_some_iff.mp hi).1
      obtain ⟨n, hn, rfl⟩ : ∃ n ∈ sz, x = V.int (n : Nat) := by
        obtain ⟨n, hn, e⟩ := List.mem_map.mp (List.mem_of_getElem? hi)
        exact ⟨n, hn, e.symm⟩
      have hn3 := ok.sz3 n hn
      refine ⟨rfl, tYes_of (iteT ⟨_, rfl, _, rfl, by omega, by omega, _, hD', by rw [List.length_replicate]; exact small1000 (by omega), same_seqT_upd s hD hD', ?_⟩)⟩
      rw [upd_same, List.replicate_succ']
    rintro H2 ⟨s2, hD'⟩
    refine ⟨D, List.replicate (intsV sz).length true, rfl, by rw [List.map_replicate]; exact SqL.of hD', ?_⟩
    have e : (List.replicate (intsV sz).length true).all id = true := by simp
    rw [e]
    refine ⟨_, rfl, iteT ?_⟩
    clear e
    have hb2 := Same.seqT s2 hb
    refine ⟨_, rfl, pb, rfl, ⟨_, hb2⟩, fun D2 hD2 => lc_tup (K := K) (a := pb) (xs := xs) (fun i H' => Same H2 H' ∧ H' D2 = some (.lst (List.replicate i (V.bl true)))) ⟨same_new hD2, upd_same⟩ (fun i H' _ ⟨s, _⟩ => Same.seqT s hb2) ?_ ?_⟩
    · rintro i x H3 hi ⟨s, hD3⟩
      have hil := (List.getElem?_eq_some_iff.mp hi).1
      obtain ⟨t, et, ht⟩ := hT.pickV hi
      refine ⟨rfl, tYes_of (iteT ⟨_, rfl, _, rfl, _, rfl, a, F, pa, sz, x, t, rfl, Same.seqT s (Same.seqT s2 ha), ok.sz3, ht.tk (Tk.same (s2.trans s)), ok.ties t (List.mem_of_getElem? et), fun H4 s4 => ?_⟩)⟩
      have hD4 := s4 _ _ hD3
      refine ⟨_, hD4, by rw [List.length_replicate]; exact small1000 (by omega), same_seqT_upd (s.trans s4) hD2 hD4, ?_⟩
      rw [upd_same, List.replicate_succ']
    rintro H3 ⟨s3, hD3⟩
    refine ⟨D2, List.replicate xs.length true, rfl, by rw [List.map_replicate]; exact SqL.of hD3, ?_⟩
    have e : (List.replicate xs.length true).all id = true := by simp
    rw [e]
    exact q _ (s2.trans s3)
def spChkWeb (K : PySem.W.Frag) : Sp := fun vs H Q _ => ∃ (f : Int) (F : Fd f) (v : V) (sz : List Nat) (ts : List (Tie F.F)), vs = [v] ∧ IsF f ∧ WebT K H F v sz ts ∧ WebOk F sz ts ∧ ∀ H', Same H H' → Q .non H'
theorem len_check_web {K vs H Q E} (h : spChkWeb K vs H Q E) : vs.length = (["web"] : List Str).length := by
  obtain ⟨f, F, v, sz, ts, rfl, _⟩ := h
  rfl
theorem d_check_web {P : Program} {w : World} {K : PySem.W.Frag} {mg : Str → Option Value} {base : Heap} (R : Raw K mg "check_web" s_check_web) (B : Bn mg) (D_is_web : Def P w K mg base "is_web" 5 ["web"] (spIsWeb K)) : Def P w K mg base "check_web" 6 ["web"] (spChkWeb K) := by
  obtain ⟨f, fd, F, m⟩ := R
  obtain ⟨f_is_web, fd_is_web, G_is_web, m_is_web, k_is_web, b_is_web⟩ := D_is_web
  refine ⟨f, fd, F.ok sc_check_web (fun vs H Q E h => ?_) (fun cdv A outer s H vs Q E hr h => ?_), m, F.kp, F.binds (ps := ["web"]) fun _ _ _ _ _ _ us hl => match us, hl with | [_], _ => rfl⟩
  · exact len_check_web h

  · obtain ⟨a, F, v, sz, ts, rfl, hf, hW, ok, q⟩ := h
    refine ⟨_, (pss_one (ps_if (pt_not (pt_val (pe_call G_is_web (hr.mono (by omega)) (by rfl) m_is_web k_is_web b_is_web .nil pass0 (pa_cons (pv 0) pa_nil)))) (pss_one ps_never) pss_nil)), ?_⟩
    exact ⟨_, rfl, a, F, v, sz, ts, rfl, hf, hW, ok, fun H1 s1 => ⟨_, rfl, iteF (q H1 s1)⟩⟩

open Lin
/-! ## columns judged, whatever they are -/
def ColQ (K : PySem.W.Frag) (H : Hp) (v : V) (qs : List Pr) : Prop := ∃ (a : Addr) (xs : List V), v = .ref a ∧ SqT K H a xs ∧ NumsV K H xs qs
def ColsQ (K : PySem.W.Frag) (H : Hp) (xs : List V) (QS : List (List Pr)) : Prop := Paired (fun v qs => ColQ K H v qs) xs QS
theorem ColQ.tk {K : PySem.W.Frag} {H H1 : Hp} {v : V} {qs : List Pr} (h : ColQ K H v qs) (t : Tk K H H1) : ColQ K H1 v qs := by
  obtain ⟨a, xs, rfl, h1, h2⟩ := h
  exact ⟨a, xs, rfl, t _ _ h1, h2.tk t⟩
theorem ColsQ.tk {K : PySem.W.Frag} {H H1 : Hp} (t : Tk K H H1) : ∀ {xs : List V} {QS : List (List Pr)}, ColsQ K H xs QS → ColsQ K H1 xs QS
  | _, _, .nil => .nil
  | _, _, .cons g r => .cons (g.tk t) (ColsQ.tk t r)
theorem ColsQ.len {K : PySem.W.Frag} {H : Hp} {xs : List V} {QS : List (List Pr)} (h : ColsQ K H xs QS) : xs.length = QS.length := Paired.length h
theorem ColsQ.pickV {K : PySem.W.Frag} {H : Hp} : ∀ {xs : List V} {QS : List (List Pr)} {i : Nat} {x : V}, ColsQ K H xs QS → xs[i]? = some x → ∃ qs, QS[i]? = some qs ∧ ColQ K H x qs
  | _, _, i, x, .nil, e => by simp at e
  | _, _, 0, x, .cons g r, e => by
    have e := Option.some.inj ((List.getElem?_cons_zero ..).symm.trans e)
    subst e
    exact ⟨_, rfl, g⟩
  | _, _, i + 1, x, .cons g r, e => by
    obtain ⟨m, h1, h2⟩ := ColsQ.pickV (i := i) (x := x) r (by simpa using e)
    exact ⟨m, by simpa using h1, h2⟩
theorem RTs.cols {K : PySem.W.Frag} {H : Hp} {f : Int} {F : Fd f} : ∀ {xs : List V} {C : List (List F.F)}, RTs K H F xs C → ColsQ K H xs (C.map fun l => l.map F.enc)
  | _, _, .nil => .nil
  | _, _, .cons g r => .cons g (RTs.cols r)
theorem ColsQ.rts {K : PySem.W.Frag} {H : Hp} {f : Int} {F : Fd f} : ∀ {xs : List V} {C : List (List F.F)}, ColsQ K H xs (C.map fun l => l.map F.enc) → RTs K H F xs C
  | _, [], h => by
    cases h
    exact .nil
  | _, c :: C, h => by
    cases h with
    | cons g r => exact .cons g (ColsQ.rts r)
theorem ColsQ.snoc {K : PySem.W.Frag} {H : Hp} {v : V} {qs : List Pr} (h : ColQ K H v qs) : ∀ {xs : List V} {QS : List (List Pr)}, ColsQ K H xs QS → ColsQ K H (xs ++ [v]) (QS ++ [qs])
  | _, _, .nil => .cons h .nil
  | _, _, .cons g r => .cons g (ColsQ.snoc h r)
def okCol (f : Int) (n : Int) (qs : List Pr) : Bool := decide ((qs.length : Int) = n) && qs.all (isNB f)
def okCols (f : Int) (ns : List Nat) (QS : List (List Pr)) : Bool := decide (QS.length = ns.length) && (List.zipWith (fun (n : Nat) qs => okCol f n qs) ns QS).all id
theorem okCols_enc {f : Int} {F : Fd f} : ∀ {ns : List Nat} {C : List (List F.F)}, C.map List.length = ns → okCols f ns (C.map fun l => l.map F.enc) = true := fun {ns C} h => by
  subst h
  unfold okCols
  rw [List.length_map, List.length_map, decide_eq_true rfl, Bool.true_and]
  induction C with
  | nil => rfl
  | cons c C ih =>
    show (okCol f (c.length : Nat) (c.map F.enc) && _) = true
    rw [Bool.and_eq_true]
    refine ⟨?_, ih⟩
    unfold okCol
    rw [List.length_map, decide_eq_true rfl, Bool.true_and, List.all_eq_true]
    intro q hq
    obtain ⟨x, _, rfl⟩ := List.mem_map.mp hq
    exact isNB_iff.mpr (F.num x)
theorem nums_enc {f : Int} {F : Fd f} : ∀ {q : List Pr}, (∀ x ∈ q, isNB f x = true) → ∃ c : List F.F, q = c.map F.enc
  | [], _ => ⟨[], rfl⟩
  | x :: q, h => by
    obtain ⟨c, ec⟩ := nums_enc (F := F) fun y hy => h y (List.mem_cons_of_mem _ hy)
    obtain ⟨y, ey⟩ := F.sur x (isNB_iff.mp (h x (List.mem_cons_self ..)))
    exact ⟨y :: c, by rw [List.map_cons, ey, ec]⟩
/-- what is found to be columns is columns of the field -/
theorem okCols_get {f : Int} {F : Fd f} : ∀ {ns : List Nat} {QS : List (List Pr)}, okCols f ns QS = true → ∃ C : List (List F.F), QS = C.map (fun l => l.map F.enc) ∧ C.map List.length = ns
  | [], [], _ => ⟨[], rfl, rfl⟩
  | [], q :: QS, h => by
    unfold okCols at h
    rw [decide_eq_false (by simp), Bool.false_and] at h
    cases h
  | n :: ns, [], h => by
    unfold okCols at h
    rw [decide_eq_false (by simp), Bool.false_and] at h
    cases h
  | n :: ns, q :: QS, h => by
    unfold okCols at h
    rw [Bool.and_eq_true, decide_eq_true_eq] at h
    obtain ⟨h1, h2⟩ := h
    have h2 : (okCol f n q && (List.zipWith (fun (n : Nat) qs => okCol f n qs) ns QS).all id) = true := h2
    rw [Bool.and_eq_true] at h2
    obtain ⟨C, e1, e2⟩ := okCols_get (F := F) (ns := ns) (QS := QS) (by unfold okCols; rw [h2.2, decide_eq_true (Nat.succ.inj h1)]; rfl)
    have ho := h2.1
    unfold okCol at ho
    rw [Bool.and_eq_true, decide_eq_true_eq, List.all_eq_true] at ho
    obtain ⟨c, ec⟩ := nums_enc (F := F) ho.2
    refine ⟨c :: C, by rw [List.map_cons, ec, e1], ?_⟩
    rw [List.map_cons, e2]
    congr 1
    have := ho.1
    rw [ec, List.length_map] at this
    omega
def spIsColG (K : PySem.W.Frag) : Sp := fun vs H Q _ => ∃ (f n : Int) (v : V) (qs : List Pr), vs = [.int f, .int n, v] ∧ ColQ K H v qs ∧ qs.length ≤ 900 ∧ ∀ H', Same H H' → Q (.bl (okCol f n qs)) H'
theorem len_is_column {K vs H Q E} (h : spIsColG K vs H Q E) : vs.length = (["field", "room", "column"] : List Str).length := by
  obtain ⟨f, n, v, qs, rfl, _⟩ := h
  rfl
theorem d_is_column {P : Program} {w : World} {K : PySem.W.Frag} {mg : Str → Option Value} {base : Heap} (R : Raw K mg "is_column" s_is_column) (B : Bn mg) (D_fits : Def P w K mg base "fits" 1 ["field", "number"] (spFits K)) : Def P w K mg base "is_column" 2 ["field", "room", "column"] (spIsColG K) := by
  obtain ⟨f, fd, F, m⟩ := R
  obtain ⟨f_fits, fd_fits, G_fits, m_fits, k_fits, b_fits⟩ := D_fits
  refine ⟨f, fd, F.ok sc_is_column (fun vs H Q E h => ?_) (fun cdv A outer s H vs Q E hr h => ?_), m, F.kp, F.binds (ps := ["field", "room", "column"]) fun _ _ _ _ _ _ us hl => match us, hl with | [_, _, _], _ => rfl⟩
  · exact len_is_column h

  · obtain ⟨a, n, v, qs, rfl, hv, l9, q⟩ := h
    refine ⟨_, (pss_one (ps_ret (pe_and (pe_cmpR op_eq (pe_callB call_len_seq (by rfl) B.len PySem.boot_len (pa_cons (pv 2) pa_nil)) (pv 1) (nomark _)) (pe_one (pe_callB (cr_all rfl) (by rfl) B.all (by decide +kernel) (pa_cons (pe_lc (own := [("number", 3)]) (g := gName 3) (tt := tYes) rfl sc_is_column.nd (pi_tup (pv 2)) (blkOk_by (N := ["field", "room", "column", "number"]) (sc := defScope s_is_column) (by decide +kernel)) (fun _ _ _ _ _ => pg_name (i := 3) sc_is_column.nd rfl (Or.inl rfl)) (fun _ _ _ _ _ => pts_nil) (fun _ _ _ _ _ => (pe_call G_fits (hr.mono (by omega)) (by rfl) m_fits k_fits b_fits .nil pass0 (pa_cons (pv 0) (pa_cons (pv 3) pa_nil))))) pa_nil)))))), ?_⟩
    obtain ⟨p, xs, rfl, hx, hn⟩ := id hv
    have lx := hn.len
    refine ⟨_, rfl, p, xs, rfl, .inr hx, _, rfl, rfl, _, rfl, ?_⟩
    by_cases e : (qs.length : Int) = n
    · rw [decide_eq_true (show V.int (xs.length : Nat) = V.int n by rw [lx, e])]
      refine iteT ⟨_, rfl, p, rfl, ⟨_, hx⟩, fun D hD => lc_tup (K := K) (a := p) (xs := xs) (fun i H' => Same H H' ∧ H' D = some (.lst (((qs.take i).map (isNB a)).map V.bl))) ⟨same_new hD, upd_same⟩ (fun i H' _ ⟨s, _⟩ => Same.seqT s hx) ?_ ?_⟩
      · rintro i x H2 hi ⟨s, hD'⟩
        obtain ⟨q', e1, n2⟩ := NumsV.get hn hi
        refine ⟨rfl, tYes_of (iteT ⟨_, rfl, _, rfl, a, x, q', rfl, n2.same s, ?_⟩)⟩
        refine ⟨_, hD', by rw [List.length_map, List.length_map, List.length_take]; exact small1000 (by omega), same_seqT_upd s hD hD', ?_⟩
        rw [upd_same, List.take_add_one, e1, List.map_append, List.map_append]
        rfl
      · rintro H' ⟨s, hD'⟩
        rw [lx, List.take_of_length_le (Nat.le_refl _)] at hD'
        refine ⟨D, qs.map (isNB a), rfl, SqL.of hD', ?_⟩
        have e2 : (qs.map (isNB a)).all id = okCol a n qs := by
          unfold okCol
          rw [decide_eq_true e, Bool.true_and, List.all_map]
          rfl
        rw [e2]
        exact q _ s
    · rw [decide_eq_false (show ¬ V.int (xs.length : Nat) = V.int n by rw [lx]; exact fun z => e (V.int.inj z))]
      refine iteF ?_
      have e2 : okCol a n qs = false := by
        unfold okCol
        rw [decide_eq_false e, Bool.false_and]
      have := q _ (Same.refl H)
      rw [e2] at this
      exact this
def spAreColsG (K : PySem.W.Frag) : Sp := fun vs H Q _ => ∃ (f : Int) (u t : Bool) (p c : Addr) (ns : List Nat) (xs : List V) (QS : List (List Pr)), vs = [.int f, .ref p, .ref c] ∧ ZM.Sq u K H p (intsV ns) ∧ ZM.Sq t K H c xs ∧ ColsQ K H xs QS ∧ ns.length ≤ 900 ∧ (∀ qs ∈ QS, qs.length ≤ 900) ∧ ∀ H', Same H H' → Q (.bl (okCols f ns QS)) H'
theorem len_are_columns {K vs H Q E} (h : spAreColsG K vs H Q E) : vs.length = (["field", "rooms", "columns"] : List Str).length := by
  obtain ⟨f, u, t, p, c, ns, xs, QS, rfl, _⟩ := h
  rfl
theorem sq_or {t : Bool} {K : PySem.W.Frag} {H : Hp} {c : Addr} {xs : List V} (hc : ZM.Sq t K H c xs) : SqL K H c xs ∨ SqT K H c xs := by
  cases t with
  | true => exact .inr hc
  | false => exact .inl hc
theorem d_are_columns {P : Program} {w : World} {K : PySem.W.Frag} {mg : Str → Option Value} {base : Heap} (R : Raw K mg "are_columns" s_are_columns) (B : Bn mg) (D_is_column : Def P w K mg base "is_column" 2 ["field", "room", "column"] (spIsColG K)) : Def P w K mg base "are_columns" 3 ["field", "rooms", "columns"] (spAreColsG K) := by
  obtain ⟨f, fd, F, m⟩ := R
  obtain ⟨f_is_column, fd_is_column, G_is_column, m_is_column, k_is_column, b_is_column⟩ := D_is_column
  refine ⟨f, fd, F.ok sc_are_columns (fun vs H Q E h => ?_) (fun cdv A outer s H vs Q E hr h => ?_), m, F.kp, F.binds (ps := ["field", "rooms", "columns"]) fun _ _ _ _ _ _ us hl => match us, hl with | [_, _, _], _ => rfl⟩
  · exact len_are_columns h

  · obtain ⟨a, u, t, p, c, ns, xs, QS, rfl, hp, hc, hQ, l9, n9, q⟩ := h
    refine ⟨_, (pss_cons (ps_if (pt_cmpR op_ne (pe_callB call_len_seq (by rfl) B.len PySem.boot_len (pa_cons (pv 2) pa_nil)) (pe_callB call_len_seq (by rfl) B.len PySem.boot_len (pa_cons (pv 1) pa_nil)) (nomark _)) (pss_one (ps_ret pe_bl)) pss_nil) (pss_one (ps_ret (pe_callB (cr_all rfl) (by rfl) B.all (by decide +kernel) (pa_cons (pe_lc (own := [("room", 3), ("column", 4)]) (g := gTup K 2 (gCons (gName 3) (gCons (gName 4) gNil))) (tt := tYes) rfl sc_are_columns.nd (ZM.pi_zip2 (by rfl) B.zip (pa_cons (pv 1) (pa_cons (pv 2) pa_nil))) (blkOk_by (N := ["field", "rooms", "columns", "room", "column"]) (sc := defScope s_are_columns) (by decide +kernel)) (fun _ _ _ _ _ => pg_tup rfl (pgs_cons (pg_name (i := 3) sc_are_columns.nd rfl (Or.inl rfl)) (pgs_cons (pg_name (i := 4) sc_are_columns.nd rfl (Or.inl rfl)) pgs_nil))) (fun _ _ _ _ _ => pts_nil) (fun _ _ _ _ _ => (pe_call G_is_column (hr.mono (by omega)) (by rfl) m_is_column k_is_column b_is_column .nil pass0 (pa_cons (pv 0) (pa_cons (pv 3) (pa_cons (pv 4) pa_nil)))))) pa_nil))))), ?_⟩
    have lx := hQ.len
    have lI : (intsV ns).length = ns.length := intsV_len
    refine ⟨_, rfl, c, xs, rfl, sq_or hc, _, rfl, p, intsV ns, rfl, sq_or hp, rfl, _, rfl, ite2 (fun e => ?_) (fun e => ?_)⟩
    · have e := neE e
      have e2 : okCols a ns QS = false := by
        unfold okCols
        rw [decide_eq_false (by omega), Bool.false_and]
      have := q _ (Same.refl H)
      rw [e2] at this
      exact this
    · have e := neN e
      have el : QS.length = ns.length := by omega
      refine ⟨_, rfl, _, rfl, u, t, p, c, intsV ns, xs, rfl, hp, hc, fun D hD => lc_it (ZM.walk2 (n := ns.length) (xs := intsV ns) (ys := xs) (by omega)) (fun i H' => Same H H' ∧ H' D = some (.lst (((List.zipWith (fun (n : Nat) qs => okCol a n qs) ns QS).take i).map V.bl))) ⟨same_new hD, upd_same⟩ (fun i H' _ ⟨s, _⟩ => ⟨Sq.same s hp, Sq.same s hc⟩) ?_ ?_⟩
      · rintro i x H2 H3 hi ⟨s, hD'⟩ ⟨T, x1, y1, rfl, hT, rfl, e1, e2⟩
        obtain ⟨qs, eq, hqs⟩ := hQ.pickV e2
        have esz : ns[i]? = some ns[i] := List.getElem?_eq_getElem hi
        have ex1 : x1 = V.int (ns[i] : Nat) := by
          have e5 : (intsV ns)[i]? = some (V.int (ns[i] : Nat)) := by
            unfold intsV
            rw [List.getElem?_map, esz]
            rfl
          exact (Option.some.inj (e5.symm.trans e1)).symm
        subst ex1
        have sT := same_new (o := .tup [.int (ns[i] : Nat), y1]) hT
        refine ⟨T, _, rfl, SqT.of upd_same, rfl, _, _, rfl, _, _, rfl, rfl, rfl, tYes_of (iteT ?_)⟩
        refine ⟨_, rfl, _, rfl, _, rfl, a, _, y1, qs, rfl, hqs.tk ((Tk.same s).trans (Tk.same sT)), n9 _ (List.mem_of_getElem? eq), fun H4 s4 => ?_⟩
        have hD4 := s4 _ _ (sT _ _ hD')
        refine ⟨_, hD4, by rw [List.length_map, List.length_take, List.length_zipWith]; exact small1000 (by omega), same_seqT_upd ((s.trans sT).trans s4) hD hD4, ?_⟩
        have ez : (List.zipWith (fun (n : Nat) qs => okCol a n qs) ns QS)[i]? = some (okCol a ns[i] qs) := by
          rw [List.getElem?_zipWith, esz, eq]
        rw [upd_same, List.take_add_one, ez, List.map_append]
        rfl
      · rintro H' ⟨s, hD'⟩
        rw [List.take_of_length_le (by rw [List.length_zipWith]; omega)] at hD'
        refine ⟨D, _, rfl, SqL.of hD', ?_⟩
        have e2 : (List.zipWith (fun (n : Nat) qs => okCol a n qs) ns QS).all id = okCols a ns QS := by
          unfold okCols
          rw [decide_eq_true el, Bool.true_and]
        rw [e2]
        exact q _ s

open Lin
theorem NumsV.app {K : PySem.W.Frag} {H : Hp} : ∀ {vs ws : List V} {qs rs : List Pr}, NumsV K H vs qs → NumsV K H ws rs → NumsV K H (vs ++ ws) (qs ++ rs)
  | _, _, _, _, .nil, h => h
  | _, _, _, _, .cons g r, h => .cons g (NumsV.app r h)
theorem NumsV.take {K : PySem.W.Frag} {H : Hp} : ∀ {vs : List V} {qs : List Pr} (i : Nat), NumsV K H vs qs → NumsV K H (vs.take i) (qs.take i)
  | _, _, 0, _ => .nil
  | _, _, _ + 1, .nil => .nil
  | _, _, i + 1, .cons g r => .cons g (NumsV.take i r)
theorem NumsV.drop {K : PySem.W.Frag} {H : Hp} : ∀ {vs : List V} {qs : List Pr} (i : Nat), NumsV K H vs qs → NumsV K H (vs.drop i) (qs.drop i)
  | _, _, 0, h => h
  | _, _, _ + 1, .nil => .nil
  | _, _, i + 1, .cons g r => NumsV.drop i r
def spWhole (K : PySem.W.Frag) : Sp := fun vs H Q _ => ∃ (box l : Addr) (f : Int) (F : Fd f) (v : V) (sz : List Nat) (ts : List (Tie F.F)), vs = [.ref box, v] ∧ BoxAt H box l ∧ IsF f ∧ WebT K H F v sz ts ∧ WebOk F sz ts ∧ ∀ H' D xs (C : List (List F.F)), Stp box l H H' → H D = none → H' D = some (.lst xs) → RTs K H' F xs C → C.map List.length = sz → (∀ c ∈ C, ∀ x ∈ c, S99 (F.enc x)) → Q (.ref D) H'
theorem len__law_whole {K vs H Q E} (h : spWhole K vs H Q E) : vs.length = (["_law_box", "_law_web_here"] : List Str).length := by
  obtain ⟨box, l, f, F, v, sz, ts, rfl, _⟩ := h
  rfl
theorem d__law_whole {P : Program} {w : World} {K : PySem.W.Frag} {mg : Str → Option Value} {base : Heap} (R : Raw K mg "_law_whole" s__law_whole) (B : Bn mg) (D__law_row : Def P w K mg base "_law_row" 4 ["_law_box", "_law_field_here", "_law_width"] (spLRow K)) : Def P w K mg base "_law_whole" 5 ["_law_box", "_law_web_here"] (spWhole K) := by
  obtain ⟨f, fd, F, m⟩ := R
  obtain ⟨f__law_row, fd__law_row, G__law_row, m__law_row, k__law_row, b__law_row⟩ := D__law_row
  refine ⟨f, fd, F.ok sc__law_whole (fun vs H Q E h => ?_) (fun cdv A outer s H vs Q E hr h => ?_), m, F.kp, F.binds (ps := ["_law_box", "_law_web_here"]) fun _ _ _ _ _ _ us hl => match us, hl with | [_, _], _ => rfl⟩
  · exact len__law_whole h

  · obtain ⟨box, l, a, F, v, sz, ts, rfl, hbx, hf, hW, ok, q⟩ := h
    refine ⟨_, (pss_one (ps_ret (pe_lc (own := [("_law_room", 2)]) (g := gName 2) (tt := tYes) rfl sc__law_whole.nd (pi_tup (pe_ix ix_tup (pv 1) pe_int (fun _ _ => rfl))) (blkOk_by (N := ["_law_box", "_law_web_here", "_law_room"]) (sc := defScope s__law_whole) (by decide +kernel)) (fun _ _ _ _ _ => pg_name (i := 2) sc__law_whole.nd rfl (Or.inl rfl)) (fun _ _ _ _ _ => pts_nil) (fun _ _ _ _ _ => (pe_call G__law_row (hr.mono (by omega)) (by rfl) m__law_row k__law_row b__law_row .nil pass0 (pa_cons (pv 0) (pa_cons (pe_ix (show IxR _ (rIxT K) from ix_tup) (pv 1) pe_int (fun _ _ => rfl)) (pa_cons (pv 2) pa_nil)))))))), ?_⟩
    obtain ⟨pw, pa, pb, xs, rfl, hw, ha, hb, hT⟩ := hW
    have l8 := ok.len8
    have lI : (intsV sz).length = sz.length := intsV_len
    refine ⟨_, rfl, pw, _, _, _, rfl, rfl, hw, rfl, pa, rfl, ⟨_, ha⟩, fun D hD => ?_⟩
    have nDb : D ≠ box := hbx.ne hD
    refine lc_tup (K := K) (a := pa) (xs := intsV sz) (fun i H' => GB box l H H' ∧ ∃ (zs : List V) (C : List (List F.F)), H' D = some (.lst zs) ∧ RTs K H' F zs C ∧ C.map List.length = sz.take i ∧ ∀ c ∈ C, ∀ x ∈ c, S99 (F.enc x)) ⟨GB.put hbx hD ⟨hbx, Keep.refl _ _⟩, [], [], upd_same, .nil, rfl, (fun c h => by cases h)⟩ (fun i H' _ h => Tk.keep hbx h.1.2 _ _ ha) ?_ ?_
    · rintro i x H2 hi ⟨g, zs, C, hz, nz, hl, hS⟩
      have hil := (List.getElem?_eq_some_iff.mp hi).1
      have hin : i < sz.length := by omega
      have es : sz[i]? = some sz[i] := List.getElem?_eq_getElem hin
      have ex : x = V.int ((sz[i] : Nat) : Int) := by
        have h2 : (intsV sz)[i]? = some (V.int ((sz[i] : Nat) : Int)) := by
          unfold intsV
          rw [List.getElem?_map, es]
          rfl
        exact Option.some.inj (hi.symm.trans h2)
      subst ex
      have hn3 := ok.sz3 _ (List.mem_of_getElem? es)
      generalize sz[i] = n at *
      refine ⟨rfl, tYes_of (iteT ⟨_, rfl, _, rfl, pw, _, _, _, rfl, rfl, Tk.keep hbx g.2 _ _ hw, rfl, _, rfl, box, l, a, n, F, rfl, g.1, hf, by omega, fun H3 v ls st hv hl3 hs3 => ?_⟩)⟩
      have hz3 := st.keep _ _ nDb hz
      have lz := nz.len
      have lC : C.length = i := by
        have := congrArg List.length hl
        rw [List.length_map, List.length_take] at this
        omega
      have tp := Tk.put (K := K) (o := .lst (zs ++ [v])) hz3
      refine ⟨zs, hz3, small1000 (by omega), GB.put hbx hD (g.go st), zs ++ [v], C ++ [ls], upd_same, RTs.snoc (hv.tk tp) (nz.tk ((Tk.stp g.1 st).trans tp)), ?_, fun c hc => ?_⟩
      · rw [List.map_append, hl, List.take_add_one, es]
        show _ ++ [ls.length] = _
        rw [hl3]
        rfl
      · rcases List.mem_append.mp hc with hc | hc
        · exact hS c hc
        · rw [List.mem_singleton.mp hc]
          exact hs3
    · rintro H2 ⟨g, zs, C, hz, nz, hl, hS⟩
      rw [lI, List.take_length] at hl
      exact q _ D zs C g.stp hD hz nz hl hS

open Lin
/-! ## k02's own helpers -/
def spLIsN (K : PySem.W.Frag) : Sp := fun vs H Q _ => ∃ (f : Int) (x : V) (p : Pr), vs = [.int f, x] ∧ 0 ≤ f ∧ NumV K H x p ∧ Q (.bl (isNB f p)) H
theorem len__law_is_number {K vs H Q E} (h : spLIsN K vs H Q E) : vs.length = (["_law_field_here", "_law_number_here"] : List Str).length := by
  obtain ⟨f, x, p, rfl, _⟩ := h
  rfl
theorem d__law_is_number {P : Program} {w : World} {K : PySem.W.Frag} {mg : Str → Option Value} {base : Heap} (R : Raw K mg "_law_is_number" s__law_is_number) (D__law_gcd : Def P w K mg base "_law_gcd" 1 ["_law_one", "_law_other"] (spGcd)) : Def P w K mg base "_law_is_number" 2 ["_law_field_here", "_law_number_here"] (spLIsN K) := by
  obtain ⟨f, fd, F, m⟩ := R
  obtain ⟨f__law_gcd, fd__law_gcd, G__law_gcd, m__law_gcd, k__law_gcd, b__law_gcd⟩ := D__law_gcd
  refine ⟨f, fd, F.ok sc__law_is_number (fun vs H Q E h => ?_) (fun cdv A outer s H vs Q E hr h => ?_), m, F.kp, F.binds (ps := ["_law_field_here", "_law_number_here"]) fun _ _ _ _ _ _ us hl => match us, hl with | [_, _], _ => rfl⟩
  · exact len__law_is_number h

  · obtain ⟨a, x, p, rfl, h0, ⟨px, rfl, hx⟩, q⟩ := h
    refine ⟨_, (pss_cons (ps_if (pt_cmpR op_gt (pv 0) pe_int (nomark _)) (pss_one (ps_ret (pe_and (pe_cmpR op_eq (pe_ix ix_tup (pv 1) pe_int (fun _ _ => rfl)) pe_int (nomark _)) (pe_one (pe_chain op_le op_lt pe_int (pe_ix ix_tup (pv 1) pe_int (fun _ _ => rfl)) (pv 0)))))) pss_nil) (pss_one (ps_ret (pe_and (pe_cmpR op_gt (pe_ix ix_tup (pv 1) pe_int (fun _ _ => rfl)) pe_int (nomark _)) (pe_one (pe_cmpR op_eq (pe_call G__law_gcd (hr.mono (by omega)) (by rfl) m__law_gcd k__law_gcd b__law_gcd .nil pass0 (pa_cons (pe_ix ix_tup (pv 1) pe_int (fun _ _ => rfl)) (pa_cons (pe_ix ix_tup (pv 1) pe_int (fun _ _ => rfl)) pa_nil))) pe_int (nomark _))))))), ?_⟩
    refine ⟨_, rfl, _, _, rfl, rfl, _, rfl, ite2 (fun e => ?_) (fun e => ?_)⟩
    · have e := of_decide_eq_true e
      have q : Q (.bl (decide (p.2 = 1) && (decide (0 ≤ p.1) && decide (p.1 < a)))) H := by
        have q := q
        unfold isNB at q
        rw [if_neg (by omega)] at q
        exact q
      refine ⟨_, rfl, px, _, _, _, rfl, rfl, hx, at1 _ _, rfl, _, rfl, ?_⟩
      rw [decI]
      refine ite2 (fun e => ?_) (fun e => ?_)
      · rw [e, Bool.true_and] at q
        refine ⟨_, rfl, px, _, _, _, rfl, rfl, hx, at0 _ _, _, _, rfl, rfl, _, rfl, ite2 (fun e => ?_) (fun e => ?_)⟩
        · rw [e, Bool.true_and] at q
          exact ⟨_, rfl, _, _, rfl, rfl, q⟩
        · rw [eq_false_of_ne_true e, Bool.false_and] at q
          exact q
      · rw [eq_false_of_ne_true e, Bool.false_and] at q
        exact q
    · have e : ¬ 0 < a := fun z => e (decide_eq_true z)
      have e0 : a = 0 := by omega
      subst e0
      have q : Q (.bl (decide (0 < p.2) && decide (((Nat.gcd p.1.natAbs p.2.natAbs : Nat) : Int) = 1))) H := by
        have e1 : decide (0 < p.2) = decide (1 ≤ p.2) := by
          by_cases h : 0 < p.2
          · rw [decide_eq_true h, decide_eq_true (show 1 ≤ p.2 by omega)]
          · rw [decide_eq_false h, decide_eq_false (show ¬ 1 ≤ p.2 by omega)]
        rw [e1]
        exact q
      refine ⟨_, rfl, px, _, _, _, rfl, rfl, hx, at1 _ _, _, _, rfl, rfl, _, rfl, ite2 (fun e => ?_) (fun e => ?_)⟩
      · rw [e, Bool.true_and] at q
        refine ⟨_, rfl, px, _, _, _, rfl, rfl, hx, at0 _ _, _, rfl, px, _, _, _, rfl, rfl, hx, at1 _ _, _, _, rfl, rfl, ?_⟩
        rw [decI]
        exact q
      · rw [eq_false_of_ne_true e, Bool.false_and] at q
        exact q

/-! ## refusals -/
/-- what the top says of a refusal's class; CW: the two classes that the handlers name, WebError and Missing -/
structure ErrM (K : PySem.W.Frag) (mg : Str → Option Value) (CW : Addr × Addr) (x : Str) (C fI : Addr) (w : Str) : Prop where
  oex : OexM K C
  exc : ExcC K C
  nm : ∃ nm, CName K C nm ∧ nm.length ≤ 5592405 ∧ Txt.lower nm = w
  xf : XfC K C
  noW : PySem.W.findIn K (.ref C) "word" = some none
  mgC : mg x = some (.ref C)
  iC : PySem.W.findIn K (.ref C) "__init__" = some (some (.ref fI))
  te : PySem.W.exmOne K (.ref C) (.ref CW.1) = some false
  tm : PySem.W.exmOne K (.ref C) (.ref CW.2) = some true
/-- what a handler must know of a caught class -/
structure ErrIs (K : PySem.W.Frag) (CW : Addr × Addr) (C : Addr) : Prop where
  xf : XfC K C
  noW : PySem.W.findIn K (.ref C) "word" = some none
  te : PySem.W.exmOne K (.ref C) (.ref CW.1) = some true ∨ (PySem.W.exmOne K (.ref C) (.ref CW.1) = some false ∧ PySem.W.exmOne K (.ref C) (.ref CW.2) = some true)
theorem ErrM.is {K : PySem.W.Frag} {mg : Str → Option Value} {CW : Addr × Addr} {C fI : Addr} {x w : Str} (E : ErrM K mg CW x C fI w) : ErrIs K CW C := ⟨E.xf, E.noW, .inr ⟨E.te, E.tm⟩⟩
/-- such a refusal leaves -/
def Raised (K : PySem.W.Frag) (CW : Addr × Addr) (w : Str) (H : Hp) (E : XK) : Prop := ∀ (C d : Addr) (H' : Hp), ErrIs K CW C → Same H H' → H' d = some (.xd [("word", .str w)]) → E (.ref C) (some d) H'
theorem Raised.same {K : PySem.W.Frag} {CW : Addr × Addr} {w : Str} {H H1 : Hp} {E : XK} (h : Raised K CW w H E) (s : Same H H1) : Raised K CW w H1 E := fun C d H' e s' q => h C d H' e (s.trans s') q
/-- the same of a class over WebError -/
structure ErrC (K : PySem.W.Frag) (mg : Str → Option Value) (CW : Addr × Addr) (x : Str) (C fI : Addr) (w : Str) : Prop where
  oex : OexC K C
  exc : ExcC K C
  nm : ∃ nm, CName K C nm ∧ nm.length ≤ 5592405 ∧ Txt.lower nm = w
  xf : XfC K C
  noW : PySem.W.findIn K (.ref C) "word" = some none
  mgC : mg x = some (.ref C)
  iC : PySem.W.findIn K (.ref C) "__init__" = some (some (.ref fI))
  te : PySem.W.exmOne K (.ref C) (.ref CW.1) = some true
theorem ErrC.is {K : PySem.W.Frag} {mg : Str → Option Value} {CW : Addr × Addr} {C fI : Addr} {x w : Str} (E : ErrC K mg CW x C fI w) : ErrIs K CW C := ⟨E.xf, E.noW, .inl E.te⟩
def spIni (K : PySem.W.Frag) : Sp := fun vs H Q _ => ∃ (a C : Addr) (x : V) (nm : Str), vs = [.ref a, x] ∧ H a = some (exo a C none) ∧ OexC K C ∧ ExcC K C ∧ CName K C nm ∧ nm.length ≤ 5592405 ∧ PySem.W.findIn K (.ref C) "word" = some none ∧
  ∀ dx, H dx = none → dx ≠ a → Q .non (upd (upd H dx (exd dx [("word", .str (Txt.lower nm))])) a (exo a C (some dx)))
/-- WebError.__init__, called with a text -/
structure IniAt (P : Program) (w : World) (K : PySem.W.Frag) (mg : Str → Option Value) (base : Heap) (fI : Addr) (fd : FuncData) : Prop where
  ok : FnOk P w K mg base CX0 1 fI fd ["self", "text"] (spIni K)
  bd : Binds K fd ["self", "text"] []
  ty : PySem.W.typeIn K (.ref fI) = some (.type "function")
abbrev s_init : Stmt := inClass (topS 2) 0
theorem sc_init : FnScope ["self", "text"] ["self", "text"] (defScope s_init) := ⟨rfl, rfl, rfl, by decide +kernel, rfl, by decide +kernel, by decide +kernel⟩
theorem d_init {P : Program} {w : World} {K : PySem.W.Frag} {mg : Str → Option Value} {base : Heap} {fI : Addr} {fd : FuncData} (F : FunD K "__init__" "WebError.__init__" (defArgs s_init) (defBody s_init) (defScope s_init) [.str ""] [] fI fd) (mV : mg "ValueError" = none)
    (vV : PySem.W.findCls K (.type "ValueError") (.type "type") "__init__" = some (.val (.builtin "ValueError.__init__"))) (ty : PySem.W.typeIn K (.ref fI) = some (.type "function")) : IniAt P w K mg base fI fd := by
  refine ⟨F.ok (CX := CX0) sc_init (fun vs H Q E h => ?_) (fun cdv A outer s H vs Q E hr h => ?_), ?_, ty⟩
  · obtain ⟨a, C, x, nm, rfl, _⟩ := h
    rfl
  · obtain ⟨a, C, x, nm, rfl, hH, oex, exc, cn, hl, noW, q⟩ := h
    refine ⟨_, pss_cons (ps_expr (pe_veinit (by rfl) mV vV (pa_cons (pv 0) (pa_cons (pv 1) pa_nil)))) (pss_one (ps_ost (pv 0) (pe_lower (pe_nameOf (pe_classOf (pv 0)))))), ?_⟩
    refine ⟨_, rfl, _, rfl, a, C, [x], rfl, by show 1 ≤ 1000; decide, oex, hH, ?_⟩
    exact ⟨_, rfl, a, C, rfl, hH, exc, C, nm, rfl, cn, ⟨_, rfl⟩, nm, rfl, rfl, hl, _, rfl, a, C, rfl, oex, noW, .inl ⟨hH, fun dx n ne => q dx n ne⟩⟩
  · obtain ⟨ds, hd, hb⟩ := F.binds1 (ps := ["self", "text"]) 2 1 (by simp) rfl fun T kV doc pm an cdv ct us its hu hi => match us, hu, its, hi with | [_, _], _, [_], _ => ⟨_, rfl, by first | rfl | with_unfolding_all rfl | kernel_rfl⟩
    cases hd
    exact hb
/-- what the raise's reading asks -/
theorem raise_read {K : PySem.W.Frag} {mg : Str → Option Value} {CW : Addr × Addr} {C fI : Addr} {x w : Str} (Ec : ErrC K mg CW x C fI w) {H : Hp} {E : XK} {y : V} (h : Raised K CW w H E) :
    ∀ a, H a = none → spIni K (.ref a :: ([y] ++ [])) (upd H a (exo a C none)) (fun v H2 => v = .non ∧ ∃ (d : Addr) (fs : List (Str × V)), H2 a = some (exo a C (some d)) ∧ H2 d = some (exd d fs) ∧ H d = none ∧ E (.ref C) (some d) (upd (del H2 a) d (.xd fs))) (fun _ _ _ => False) := by
  intro a ha
  obtain ⟨nm, cn, hl, ew⟩ := Ec.nm
  refine ⟨a, C, y, nm, rfl, upd_same, Ec.oex, Ec.exc, cn, hl, Ec.noW, fun dx hdx ne => ⟨rfl, dx, [("word", .str w)], ?_, ?_, ?_, ?_⟩⟩
  · rw [upd_same]
  · rw [upd_ne ne, upd_same, ew]
  · rw [upd_ne ne] at hdx
    exact hdx
  · rw [upd_ne ne] at hdx
    refine h C dx _ Ec.is (fun b o e => ?_) upd_same
    have n1 : b ≠ a := ne_of_none e ha
    have n2 : b ≠ dx := ne_of_none e hdx
    rw [upd_ne n2, del_ne n1, upd_ne n1, upd_ne n2, upd_ne n1]
    exact e
def spIniM (K : PySem.W.Frag) : Sp := fun vs H Q _ => ∃ (a C : Addr) (x : V) (nm : Str), vs = [.ref a, x] ∧ H a = some (exo a C none) ∧ OexM K C ∧ ExcC K C ∧ CName K C nm ∧ nm.length ≤ 5592405 ∧ PySem.W.findIn K (.ref C) "word" = some none ∧
  ∀ dx, H dx = none → dx ≠ a → Q .non (upd (upd H dx (exd dx [("word", .str (Txt.lower nm))])) a (exo a C (some dx)))
/-- Missing.__init__, called with a text -/
structure IniAtM (P : Program) (w : World) (K : PySem.W.Frag) (mg : Str → Option Value) (base : Heap) (fI : Addr) (fd : FuncData) : Prop where
  ok : FnOk P w K mg base CX0 1 fI fd ["self", "text"] (spIniM K)
  bd : Binds K fd ["self", "text"] []
  ty : PySem.W.typeIn K (.ref fI) = some (.type "function")
abbrev s_initM : Stmt := inClass (topS 7) 0
theorem sc_initM : FnScope ["self", "text"] ["self", "text"] (defScope s_initM) := ⟨rfl, rfl, rfl, by decide +kernel, rfl, by decide +kernel, by decide +kernel⟩
theorem d_initM {P : Program} {w : World} {K : PySem.W.Frag} {mg : Str → Option Value} {base : Heap} {fI : Addr} {fd : FuncData} (F : FunD K "__init__" "Missing.__init__" (defArgs s_initM) (defBody s_initM) (defScope s_initM) [.str ""] [] fI fd) (mV : mg "LookupError" = none)
    (vV : PySem.W.findCls K (.type "LookupError") (.type "type") "__init__" = some (.val (.builtin "LookupError.__init__"))) (ty : PySem.W.typeIn K (.ref fI) = some (.type "function")) : IniAtM P w K mg base fI fd := by
  refine ⟨F.ok (CX := CX0) sc_initM (fun vs H Q E h => ?_) (fun cdv A outer s H vs Q E hr h => ?_), ?_, ty⟩
  · obtain ⟨a, C, x, nm, rfl, _⟩ := h
    rfl
  · obtain ⟨a, C, x, nm, rfl, hH, oex, exc, cn, hl, noW, q⟩ := h
    refine ⟨_, pss_cons (ps_expr (pe_leinit (by rfl) mV vV (pa_cons (pv 0) (pa_cons (pv 1) pa_nil)))) (pss_one (ps_first (pv 0) (pe_lower (pe_nameOf (pe_classOf (pv 0)))))), ?_⟩
    refine ⟨_, rfl, _, rfl, a, C, [x], rfl, by show 1 ≤ 1000; decide, oex, hH, ?_⟩
    exact ⟨_, rfl, a, C, rfl, hH, exc, C, nm, rfl, cn, ⟨_, rfl⟩, nm, rfl, rfl, hl, _, rfl, a, C, rfl, oex, noW, hH, fun dx n ne => q dx n ne⟩
  · obtain ⟨ds, hd, hb⟩ := F.binds1 (ps := ["self", "text"]) 2 1 (by simp) rfl fun T kV doc pm an cdv ct us its hu hi => match us, hu, its, hi with | [_, _], _, [_], _ => ⟨_, rfl, by first | rfl | with_unfolding_all rfl | kernel_rfl⟩
    cases hd
    exact hb
/-- what the raise's reading asks -/
theorem raise_readM {K : PySem.W.Frag} {mg : Str → Option Value} {CW : Addr × Addr} {C fI : Addr} {x w : Str} (Ec : ErrM K mg CW x C fI w) {H : Hp} {E : XK} {y : V} (h : Raised K CW w H E) :
    ∀ a, H a = none → spIniM K (.ref a :: ([y] ++ [])) (upd H a (exo a C none)) (fun v H2 => v = .non ∧ ∃ (d : Addr) (fs : List (Str × V)), H2 a = some (exo a C (some d)) ∧ H2 d = some (exd d fs) ∧ H d = none ∧ E (.ref C) (some d) (upd (del H2 a) d (.xd fs))) (fun _ _ _ => False) := by
  intro a ha
  obtain ⟨nm, cn, hl, ew⟩ := Ec.nm
  refine ⟨a, C, y, nm, rfl, upd_same, Ec.oex, Ec.exc, cn, hl, Ec.noW, fun dx hdx ne => ⟨rfl, dx, [("word", .str w)], ?_, ?_, ?_, ?_⟩⟩
  · rw [upd_same]
  · rw [upd_ne ne, upd_same, ew]
  · rw [upd_ne ne] at hdx
    exact hdx
  · rw [upd_ne ne] at hdx
    refine h C dx _ Ec.is (fun b o e => ?_) upd_same
    have n1 : b ≠ a := ne_of_none e ha
    have n2 : b ≠ dx := ne_of_none e hdx
    rw [upd_ne n2, del_ne n1, upd_ne n1, upd_ne n2, upd_ne n1]
    exact e
/-- a def that may raise -/
def DefX (P : Program) (w : World) (K : PySem.W.Frag) (mg : Str → Option Value) (base : Heap) (x : Str) (k : Nat) (ps : List Str) (sp : Sp) : Prop :=
  ∃ (f : Addr) (fd : FuncData), FnOk P w K mg base (L2.CX P w) k f fd ps sp ∧ mg x = some (.ref f) ∧ PySem.W.keepIn K (.ref f) = true ∧ Binds K fd ps []

/-! ## tables of code objects stand -/
theorem TabS.keep {H H' : Hp} {box l P : Addr} {q : Str} (t : LamX.TabS H P q) (hb : BoxAt H box l) (k : Keep box H H') : LamX.TabS H' P q := by
  obtain ⟨ps, h1, h2, h3⟩ := t
  obtain ⟨_, _, _, _, _, b1, _⟩ := hb
  refine ⟨ps, k _ _ (fun e => ?_) h1, h2, fun pos cv hc => ?_⟩
  · rw [e, b1] at h1
    cases h1
  · obtain ⟨c, e1, e2⟩ := h3 pos cv hc
    refine ⟨c, e1, k _ _ (fun e => ?_) e2⟩
    rw [e, b1] at e2
    have z := Option.some.inj e2
    unfold LamX.CodeO at z
    cases z
theorem Tabs.keep {H H' : Hp} {box l : Addr} {T : List (Addr × Str)} (t : LamX.Tabs T H) (hb : BoxAt H box l) (k : Keep box H H') : LamX.Tabs T H' := fun p hp => TabS.keep (t p hp) hb k
theorem NumV.extN {K : PySem.W.Frag} {H H' : Hp} {v : V} {q : Pr} (h : NumV K H v q) (e : LamX.ExtN H H') : NumV K H' v q := by
  obtain ⟨p, h1, h2⟩ := h
  refine ⟨p, h1, ?_⟩
  rcases h2 with (h | ⟨o, h⟩) | h
  · exact .inl (.inl (e _ _ h fun _ z => by cases z))
  · exact .inl (.inr ⟨o, e _ _ h fun _ z => by cases z⟩)
  · exact .inr h
theorem BoxAt.extN {H H' : Hp} {box l : Addr} (h : BoxAt H box l) (e : LamX.ExtN H H') : BoxAt H' box l := by
  obtain ⟨ns, i, x, s, c, h1, h2, h3⟩ := h
  exact ⟨ns, i, x, s, c, e _ _ h1 (fun _ z => by cases z), e _ _ h2 (fun _ z => by cases z), h3⟩

/-! ## a law that asks by lambdas -/
/-- _law_why as it stands at the top -/
structure WhyAt (K : PySem.W.Frag) (mg : Str → Option Value) (g : Addr) (oc : Value) (od : Option Addr) (kV doc pm : Value) (an : Option Addr) (cdv ct : Value) (osl : Array (Option Value)) : Prop where
  m : mg "_law_why" = some (.ref g)
  k : PySem.W.keepIn K (.ref g) = true
  l : K.lookup g = some ⟨oc, od, .func (PySem.W.fnOf "_law_why" "_law_why" (defArgs s__law_why) (defBody s__law_why) (defScope s__law_why) .none kV doc pm an cdv ct), osl⟩
  c : PySem.W.codeIn K cdv "_law_why" = true
  b : Binds K (PySem.W.fnOf "_law_why" "_law_why" (defArgs s__law_why) (defBody s__law_why) (defScope s__law_why) .none kV doc pm an cdv ct) ["_law_ask"] []
abbrev qLam : Str := "law.<locals>.<lambda>"
def spLawT (K : PySem.W.Frag) (TL : List (Addr × Str)) : Sp := fun vs H Q _ => ∃ (a : Addr) (ns : List Int), vs = [.ref a] ∧ SqL K H a (ns.map V.int) ∧ (∀ p ∈ TL, H p.1 = some (.tbl #[])) ∧ ∀ H', Q (.bl true) H'
theorem len_law {K TL vs H Q E} (h : spLawT K TL vs H Q E) : vs.length = (["_law_script"] : List Str).length := by
  obtain ⟨f, t, rfl, _⟩ := h
  rfl
/-- what a turn keeps -/
structure Here (box l : Addr) (T : List (Addr × Str)) (H : Hp) : Prop where
  box : BoxAt H box l
  tab : LamX.Tabs T H
theorem Here.same {box l : Addr} {T : List (Addr × Str)} {H H' : Hp} (h : Here box l T H) (s : Same H H') : Here box l T H' := ⟨h.box.same s, h.tab.ext s⟩
theorem Here.stp {box l : Addr} {T : List (Addr × Str)} {H H' : Hp} (h : Here box l T H) (s : Stp box l H H') : Here box l T H' := ⟨s.box, Tabs.keep h.tab h.box s.keep⟩
theorem Here.extN {box l : Addr} {T : List (Addr × Str)} {H H' : Hp} (h : Here box l T H) (s : LamX.ExtN H H') (t : LamX.Tabs T H') : Here box l T H' := ⟨h.box.extN s, t⟩
theorem SqT.extN {K : PySem.W.Frag} {H H' : Hp} {a : Addr} {xs : List V} (h : SqT K H a xs) (e : LamX.ExtN H H') : SqT K H' a xs := by
  rcases h with (h | ⟨o, h⟩) | h
  · exact .inl (.inl (e _ _ h fun _ z => by cases z))
  · exact .inl (.inr ⟨o, e _ _ h fun _ z => by cases z⟩)
  · exact .inr h
theorem SqT.keep {K : PySem.W.Frag} {H H' : Hp} {box l a : Addr} {xs : List V} (h : SqT K H a xs) (hb : BoxAt H box l) (e : Keep box H H') : SqT K H' a xs := by
  obtain ⟨_, _, _, _, _, b1, _⟩ := hb
  rcases h with (h | ⟨o, h⟩) | h
  · refine .inl (.inl (e _ _ (fun z => ?_) h))
    rw [z, b1] at h
    cases h
  · refine .inl (.inr ⟨o, e _ _ (fun z => ?_) h⟩)
    rw [z, b1] at h
    cases h
  · exact .inr h
theorem gName_go {i : Nat} {v : V} {σ : L2.St} {H : Hp} {Q : L2.St → Hp → Prop} (h : Q (σ.set i (some v)) H) : gName i v σ H Q := h
theorem nx_go {t u : TS} {D : Ends} {rt : VK} {bk ct : L2.St → Hp → Prop} {σ : L2.St} {H : Hp} (h : t { D with nx := u D } σ H) : Ends.nx { nx := tSeq t u D, rt := rt, bk := bk, ct := ct } σ H := h
theorem ifS_go {c : TT} {t u : TS} {D : Ends} {σ : L2.St} {H : Hp} (h : c σ H fun b H1 => if b = true then t D σ H1 else u D σ H1) : tIfS c t u D σ H := h
theorem tAsg_mid {te : TE} {g : TG} {D : Ends} {σ : L2.St} {H : Hp} (M : V → Hp → Prop) (h : ∀ v H', M v H' → g v σ H' D.nx) (k : (∀ v H', M v H' → g v σ H' D.nx) → te σ H (fun v H' => g v σ H' D.nx)) : tAsg te g D σ H := k h
theorem f97 {f : Int} (hf : IsF f) : f ≤ 97 := by
  by_cases h0 : f = 0
  · omega
  · have := hf.two h0
    omega

/-! ## _law_why -/
/-- what _law_why makes of its question: the told value and an empty text, or None and the refusal's word, in a new tuple -/
def TTwhy (K : PySem.W.Frag) (CW : Addr × Addr) : (XK → Hp → VK → Prop) → Hp → VK → Prop := fun tl H Q => ∀ (E : XK) (R : VK),
  (∀ (C dd : Addr) (w : Str) (H' : Hp), ErrIs K CW C → H' dd = some (.xd [("word", .str w)]) → (∀ p, H' p = none → Q (.ref p) (upd H' p (.tup [.non, .str w]))) → E (.ref C) (some dd) H') →
  (∀ (v : V) (H' : Hp), (∀ p, H' p = none → Q (.ref p) (upd H' p (.tup [v, .str ""]))) → R v H') → tl E H R
theorem why_asks {X : Cx} {K : PySem.W.Frag} {CW : Addr × Addr} (hK : X.K = K) {g : Addr} {cdg : Value} {q : Str} (mW : X.mg "WebError" = some (.ref CW.1)) (mM : X.mg "Missing" = some (.ref CW.2)) :
    LamX.AsksOf X ["_law_ask", "_law_told", "_law_word", "e"] "_law_why" (defScope s__law_why) g cdg (defBody s__law_why) "_law_ask" q (TTwhy K CW) := by
  subst hK
  intro f c' s H Q tl act hc h
  have nW : Names (cxOf C8.CX0 X.prog X.w X.K X.mg X.base ["_law_ask", "_law_told", "_law_word", "e"] "_law_why" (defScope s__law_why) g cdg X.A X.stack s H C8.E0).nox "WebError" (.ref CW.1) := ⟨rfl, by decide, .inl mW⟩
  have nM : Names (cxOf C8.CX0 X.prog X.w X.K X.mg X.base ["_law_ask", "_law_told", "_law_word", "e"] "_law_why" (defScope s__law_why) g cdg X.A X.stack s H C8.E0).nox "Missing" (.ref CW.2) := ⟨rfl, by decide, .inl mM⟩
  refine ⟨_, pss_cons (ps_set (i := 1) sc__law_why.nd rfl (Or.inl rfl) pe_non) (pss_cons (ps_set (i := 2) sc__law_why.nd rfl (Or.inl rfl) pe_str) (pss_cons
    (ps_try_clauses (X := (cxOf C8.CX0 X.prog X.w X.K X.mg X.base ["_law_ask", "_law_told", "_law_word", "e"] "_law_why" (defScope s__law_why) g cdg X.A X.stack s H C8.E0).nox) (i := 3) (n := "e") (W0 := fun _ _ _ _ => False)
      (tb := fun W => tAsg (fun σ H Q => σ[0]? = some (some (.ref f)) ∧ H c' = some (LamX.CodeO c' q) ∧ tl (WE W σ) H Q) (gName 1))
      rfl rfl sc__law_why.nd rfl rfl takes0 (fun W pn xe tk _ => pss_one (ps_set (i := 1) sc__law_why.nd rfl (Or.inl rfl) (act W pn xe _ _ tk)))
      (.cons nW (fun a oe cls d pn hz hf => pss_one (ps_set (i := 2) sc__law_why.nd rfl (Or.inl rfl) (pe_errF hz hf (pv 3)))) (.cons nM (fun a oe cls d pn hz hf => pss_one (ps_set (i := 2) sc__law_why.nd rfl (Or.inl rfl) (pe_errF hz hf (pv 3)))) .nil)))
    (pss_one (ps_ret (pe_tup (pa_cons (pv 1) (pa_cons (pv 2) pa_nil))))))), ?_⟩
  refine ⟨rfl, hc, h _ _ (fun C dd w H' hC hd k => ?_) (fun v H' k => ?_)⟩
  · rcases hC.te with te | ⟨te, tm⟩
    · refine ⟨true, te, fun _ a na => ?_, fun z => Bool.noConfusion z⟩
      refine ⟨_, rfl, rfl, C, dd, _, _, rfl, hC.xf, hC.noW, rfl, hd, rfl, ?_⟩
      exact ⟨_, rfl, _, rfl, (by show 2 ≤ sizeLine; decide), fun p hp => k p hp⟩
    · refine ⟨false, te, fun z => Bool.noConfusion z, fun _ => ⟨true, tm, fun _ a na => ?_, fun z => Bool.noConfusion z⟩⟩
      refine ⟨_, rfl, rfl, C, dd, _, _, rfl, hC.xf, hC.noW, rfl, hd, rfl, ?_⟩
      exact ⟨_, rfl, _, rfl, (by show 2 ≤ sizeLine; decide), fun p hp => k p hp⟩
  · exact ⟨_, rfl, _, rfl, (by show 2 ≤ sizeLine; decide), fun p hp => k p hp⟩

open Lin
/-! ## tools of a law that asks by lambdas -/
theorem Tk.extN {K : PySem.W.Frag} {H H' : Hp} (e : LamX.ExtN H H') : Tk K H H' := fun _ _ h => SqT.extN h e
theorem tSeq_join {t u : TS} {D : Ends} {σ : L2.St} {H : Hp} (M : L2.St → Hp → Prop) (hM : ∀ σ' H', M σ' H' → u D σ' H') (h : (∀ σ' H', M σ' H' → u D σ' H') → tSeq t u D σ H) : tSeq t u D σ H := h hM
theorem TabS.put {H : Hp} {P D : Addr} {q : Str} {zs : List V} {o : HO} (t : LamX.TabS H P q) (h : H D = some (.lst zs)) : LamX.TabS (upd H D o) P q := by
  obtain ⟨ps, h1, h2, h3⟩ := t
  have ne : ∀ {a : Addr} {x : HO}, H a = some x → (∀ zs, x ≠ .lst zs) → a ≠ D := fun h1 h2 e => by
    rw [e, h] at h1
    exact h2 _ (Option.some.inj h1).symm
  refine ⟨ps, by rw [upd_ne (ne h1 fun _ z => by cases z)]; exact h1, h2, fun pos cv hc => ?_⟩
  obtain ⟨c, e1, e2⟩ := h3 pos cv hc
  exact ⟨c, e1, by rw [upd_ne (ne e2 fun _ z => by unfold LamX.CodeO at z; cases z)]; exact e2⟩
theorem Tabs.put {H : Hp} {D : Addr} {T : List (Addr × Str)} {zs : List V} {o : HO} (t : LamX.Tabs T H) (h : H D = some (.lst zs)) : LamX.Tabs T (upd H D o) := fun p hp => TabS.put (t p hp) h
/-- all stays but tables, and one list -/
def KX (D : Addr) (H H' : Hp) : Prop := ∀ a o, a ≠ D → H a = some o → (∀ ps, o ≠ .tbl ps) → H' a = some o
theorem KX.refl (D : Addr) (H : Hp) : KX D H H := fun _ _ _ h _ => h
theorem KX.trans {D : Addr} {H H1 H2 : Hp} (a : KX D H H1) (b : KX D H1 H2) : KX D H H2 := fun p o n h t => b p o n (a p o n h t) t
theorem KX.ext {D : Addr} {H H' : Hp} (e : LamX.ExtN H H') : KX D H H' := fun a o _ h t => e a o h t
theorem KX.put {D : Addr} {H : Hp} {o : HO} : KX D H (upd H D o) := fun a x n h _ => by rw [upd_ne n]; exact h
theorem KX.tk {K : PySem.W.Frag} {D : Addr} {H H' : Hp} {zs : List V} (e : KX D H H') (hD : H D = some (.lst zs)) : Tk K H H' := fun a xs h => by
  have ne : ∀ {x : HO}, H a = some x → (∀ zs, x ≠ .lst zs) → a ≠ D := fun h1 h2 e => by
    rw [e, hD] at h1
    exact h2 _ (Option.some.inj h1).symm
  rcases h with (h | ⟨o, h⟩) | h
  · exact .inl (.inl (e _ _ (ne h fun _ z => by cases z) h fun _ z => by cases z))
  · exact .inl (.inr ⟨o, e _ _ (ne h fun _ z => by cases z) h fun _ z => by cases z⟩)
  · exact .inr h
theorem lst2_go {a b : TE} {σ : L2.St} {H : Hp} {Q : VK} (h : a σ H fun x H1 => b σ H1 fun y H2 => 2 ≤ sizeLine ∧ ∀ p, H2 p = none → Q (.ref p) (upd H2 p (.lst [x, y]))) : tLst (tCons a (tCons b tNil)) σ H Q := h
theorem asg_go {te : TE} {g : TG} {D : Ends} {σ : L2.St} {H : Hp} (h : te σ H fun x H1 => g x σ H1 D.nx) : tAsg te g D σ H := h
theorem nx1_go {t : TS} {D : Ends} {rt : VK} {bk ct : L2.St → Hp → Prop} {σ : L2.St} {H : Hp} (h : t D σ H) : Ends.nx { nx := t D, rt := rt, bk := bk, ct := ct } σ H := h
theorem Here.put {box l D : Addr} {T : List (Addr × Str)} {H : Hp} {xs ys : List V} (h : Here box l T H) (hD : H D = some (.lst xs)) (n1 : D ≠ box) (n2 : D ≠ l) : Here box l T (upd H D (.lst ys)) := by
  obtain ⟨⟨ns, i, x, s, c, b1, b2, b3⟩, t⟩ := h
  refine ⟨⟨ns, i, x, s, c, ?_, ?_, b3⟩, fun p hp => ?_⟩
  · rw [upd_ne (fun e => n1 e.symm)]
    exact b1
  · rw [upd_ne (fun e => n2 e.symm)]
    exact b2
  · obtain ⟨ps, h1, h2, h3⟩ := t p hp
    refine ⟨ps, ?_, h2, fun pos cv hc => ?_⟩
    · rw [upd_ne (fun e => by rw [e, hD] at h1; cases h1)]
      exact h1
    · obtain ⟨c2, e1, e2⟩ := h3 pos cv hc
      refine ⟨c2, e1, ?_⟩
      rw [upd_ne (fun e => by
        rw [e, hD] at e2
        have z := Option.some.inj e2
        unfold LamX.CodeO at z
        cases z)]
      exact e2
theorem if_go {c : TT} {t u : TS} {D : Ends} {σ : L2.St} {H : Hp} (h : c σ H fun b H1 => if b = true then t D σ H1 else u D σ H1) : tIfS c t u D σ H := h
theorem or_go {t u : TT} {σ : L2.St} {H : Hp} {Q : Bool → Hp → Prop} (h : t σ H fun c H1 => if c = true then Q true H1 else u σ H1 Q) : tOr t u σ H Q := h
theorem not_go {t : TT} {σ : L2.St} {H : Hp} {Q : Bool → Hp → Prop} (h : t σ H fun c H1 => Q (!c) H1) : tNot t σ H Q := h
theorem b_go {t : TE} {σ : L2.St} {H : Hp} {Q : Bool → Hp → Prop} (h : t σ H fun x H1 => ∃ c, x = .bl c ∧ Q c H1) : tB t σ H Q := h
theorem test_go {t : TE} {σ : L2.St} {H : Hp} {Q : Bool → Hp → Prop} (h : t σ H fun x H1 => ∃ c, x = .bl c ∧ Q c H1) : tTest t σ H Q := h
theorem call_go {S : Sp} {pre : List V} {E : XK} {t : TA} {σ : L2.St} {H : Hp} {Q : VK} (h : t σ H fun xs H1 => S (xs ++ pre) H1 Q E) : tCall S pre E t σ H Q := h
theorem next_go {t : TS} {D : Ends} {rt : VK} {bk ct : L2.St → Hp → Prop} {σ : L2.St} {H : Hp} (h : t D σ H) : tNext { nx := t D, rt := rt, bk := bk, ct := ct } σ H := h

open Lin
section
variable {f : Int} {F : Fd f} {K : PySem.W.Frag} {H : Hp}
/-! ## a web as data -/
def tabD (F : Fd f) (T : List (List F.F)) : PyData := .tuple (T.map (rowD F))
def tieD (F : Fd f) (t : Tie F.F) : PyData := .tuple [.int t.one, .int t.other, .int t.room, tabD F t.fst, tabD F t.snd]
def intsD (ns : List Nat) : List PyData := ns.map fun n : Nat => PyData.int (n : Int)
def webD (F : Fd f) (sz : List Nat) (ts : List (Tie F.F)) : PyData := .tuple [.int f, .tuple (intsD sz), .tuple (ts.map (tieD F))]
theorem lay_tab (T : List (List F.F)) : LayN 3 (tabD F T) := lay_tup fun d hd => by
  obtain ⟨l, _, rfl⟩ := List.mem_map.mp hd
  exact lay_row _
theorem lay_tie (t : Tie F.F) : LayN 4 (tieD F t) := lay_tup fun d hd => by
  rcases List.mem_cons.mp hd with rfl | hd
  · exact (lay_int _).mono (by decide)
  rcases List.mem_cons.mp hd with rfl | hd
  · exact (lay_int _).mono (by decide)
  rcases List.mem_cons.mp hd with rfl | hd
  · exact (lay_int _).mono (by decide)
  rcases List.mem_cons.mp hd with rfl | hd
  · exact lay_tab _
  · rw [List.mem_singleton.mp hd]
    exact lay_tab _
theorem lay_intsD (ns : List Nat) : ∀ d ∈ intsD ns, LayN 0 d := fun d hd => by
  obtain ⟨n, _, rfl⟩ := List.mem_map.mp hd
  exact lay_int _
theorem lay_web (sz : List Nat) (ts : List (Tie F.F)) : LayN 6 (webD F sz ts) := lay_tup fun d hd => by
  rcases List.mem_cons.mp hd with rfl | hd
  · exact (lay_int _).mono (by decide)
  rcases List.mem_cons.mp hd with rfl | hd
  · exact (lay_tup (lay_intsD sz)).mono (by decide)
  · rw [List.mem_singleton.mp hd]
    refine (lay_tup (n := 4) fun d hd => ?_).mono (by decide)
    obtain ⟨t, _, rfl⟩ := List.mem_map.mp hd
    exact lay_tie _
theorem TabT.dp {v : V} {T : List (List F.F)} (h : TabT K H F v T) : Dp K H v (tabD F T) := by
  obtain ⟨a, xs, rfl, hx, hr⟩ := h
  exact .tup hx hr.dp
theorem TieT.dp {v : V} {t : Tie F.F} (h : TieT K H F v t) : Dp K H v (tieD F t) := by
  obtain ⟨a, x, y, rfl, h1, h2, h3⟩ := h
  exact .tup h1 (.cons (.int _) (.cons (.int _) (.cons (.int _) (.cons h2.dp (.cons h3.dp .nil)))))
theorem TiesT.dp : ∀ {xs : List V} {ts : List (Tie F.F)}, TiesT K H F xs ts → DpAll K H xs (ts.map (tieD F))
  | _, _, .nil => .nil
  | _, _, .cons g r => .cons g.dp (TiesT.dp r)
theorem dp_intsD : ∀ (P : List Nat), DpAll K H (intsV P) (intsD P)
  | [] => .nil
  | _ :: P => .cons (.int _) (dp_intsD P)
theorem WebT.dp {v : V} {sz : List Nat} {ts : List (Tie F.F)} (h : WebT K H F v sz ts) : Dp K H v (webD F sz ts) := by
  obtain ⟨a, p, q, xs, rfl, h1, h2, h3, hT⟩ := h
  exact .tup h1 (.cons (.int _) (.cons (.tup h2 (dp_intsD sz)) (.cons (.tup h3 hT.dp) .nil)))
theorem eqv_web (sz : List Nat) (ts : List (Tie F.F)) : PyData.eqv (webD F sz ts) (webD F sz ts) = true := eqv_self _ (lay_web sz ts).1
theorem shp_web (sz : List Nat) (ts : List (Tie F.F)) : SeqAt.shaped (webD F sz ts) = true := (lay_web sz ts).shaped (by decide)
end

open Lin
/-! ## the law's own columns -/
def spNumGood (K : PySem.W.Frag) : Sp := fun vs H Q _ => ∃ (f : Int) (t : Bool) (r : Addr) (xs : List V) (QS : List (List Pr)), vs = [.int f, .ref r] ∧ 0 ≤ f ∧ ZM.Sq t K H r xs ∧ ColsQ K H xs QS ∧ QS.length ≤ 900 ∧ (∀ qs ∈ QS, qs.length ≤ 900) ∧ ∀ H', Same H H' → Q (.bl (QS.all fun qs => qs.all (isNB f))) H'
theorem len__law_numbers_good {K vs H Q E} (h : spNumGood K vs H Q E) : vs.length = 2 := by
  obtain ⟨f, t, r, xs, QS, rfl, _⟩ := h
  rfl
theorem d__law_numbers_good {P : Program} {w : World} {K : PySem.W.Frag} {mg : Str → Option Value} {base : Heap} (R : Raw K mg "_law_numbers_good" s__law_numbers_good) (B : Bn mg) (D__law_is_number : Def P w K mg base "_law_is_number" 2 ["_law_field_here", "_law_number_here"] (spLIsN K)) : Def P w K mg base "_law_numbers_good" 3 ["_law_field_here", "_law_rows"] (spNumGood K) := by
  obtain ⟨f, fd, F, m⟩ := R
  obtain ⟨f__law_is_number, fd__law_is_number, G__law_is_number, m__law_is_number, k__law_is_number, b__law_is_number⟩ := D__law_is_number
  refine ⟨f, fd, F.ok sc__law_numbers_good (fun vs H Q E h => ?_) (fun cdv A outer s H vs Q E hr h => ?_), m, F.kp, F.binds (ps := ["_law_field_here", "_law_rows"]) fun _ _ _ _ _ _ us hl => match us, hl with | [_, _], _ => rfl⟩
  · exact len__law_numbers_good h

  · obtain ⟨f, t, r, xs, QS, rfl, f0, hR, hQ, l9, n9, q⟩ := h
    refine ⟨_, (pss_one (ps_ret (pe_callB (cr_all rfl) (by rfl) B.all (by decide +kernel) (pa_cons (pe_lc (own := [("_law_row_here", 2)]) (g := gName 2) (tt := tYes) rfl sc__law_numbers_good.nd (ZM.pi_sq (pv 1)) (blkOk_by (N := ["_law_field_here", "_law_rows", "_law_row_here", "_law_number_here"]) (sc := defScope s__law_numbers_good) (by decide +kernel)) (fun _ _ _ _ _ => pg_name (i := 2) sc__law_numbers_good.nd rfl (Or.inl rfl)) (fun _ _ _ _ _ => pts_nil) (fun _ _ _ _ _ => (pe_callB (show CallR _ (.builtin "all") (rAll K) from cr_all rfl) (by rfl) B.all (by decide +kernel) (pa_cons (pe_lc (own := [("_law_number_here", 3)]) (g := gName 3) (tt := tYes) rfl sc__law_numbers_good.nd (show PI _ _ _ (ZM.iSq K (tVar 2)) from ZM.pi_sq (pv 2)) (blkOk_by (N := ["_law_field_here", "_law_rows", "_law_row_here", "_law_number_here"]) (sc := { kind := PySem.ScopeKind.function, names := [ (PySem.Str.ofString ".0", PySem.NameKind.local), (PySem.Str.ofString "_law_row_here", PySem.NameKind.local), (PySem.Str.ofString "all", PySem.NameKind.globalImplicit), (PySem.Str.ofString "_law_field_here", PySem.NameKind.cell)], isGenerator := false, isCoroutine := false, more := [] : PySem.Scope }) (by decide +kernel)) (fun _ _ _ _ _ => pg_name (i := 3) sc__law_numbers_good.nd rfl (Or.inl rfl)) (fun _ _ _ _ _ => pts_nil) (fun _ _ _ _ _ => (pe_call G__law_is_number (hr.mono (by omega)) (by rfl) m__law_is_number k__law_is_number b__law_is_number .nil pass0 (pa_cons (pv 0) (pa_cons (pv 3) pa_nil))))) pa_nil)))) pa_nil)))), ?_⟩
    have lx := hQ.len
    refine ⟨_, rfl, t, r, xs, rfl, hR, fun D hD => lc_it (ZM.walkS (t := t) (xs := xs)) (fun i H' => Same H H' ∧ H' D = some (.lst (((QS.take i).map fun qs => qs.all (isNB f)).map V.bl))) ⟨same_new hD, upd_same⟩ (fun i H' _ h => Sq.same h.1 hR) ?_ ?_⟩
    · rintro i x H2 H2' hi0 ⟨s2, hz⟩ ⟨rfl, hi⟩
      obtain ⟨qs, eq, p, us, rfl, hu, hn⟩ := (hQ.tk (Tk.same s2)).pickV hi
      have lu := hn.len
      have n9' := n9 qs (List.mem_of_getElem? eq)
      refine ⟨rfl, tYes_of (iteT ⟨_, rfl, true, p, us, rfl, hu, fun D2 hD2 => lc_it (ZM.walkS (t := true) (xs := us)) (fun j H' => Same H2' H' ∧ H' D2 = some (.lst (((qs.take j).map (isNB f)).map V.bl))) ⟨same_new hD2, upd_same⟩ (fun j H' _ h => Same.seqT h.1 hu) ?_ ?_⟩)⟩
      · rintro j y H3 H3' hj0 ⟨s3, hz3⟩ ⟨rfl, hj⟩
        obtain ⟨q', hq1, hq2⟩ := NumsV.get (NumsV.same s3 hn) hj
        refine ⟨rfl, tYes_of (iteT ⟨_, rfl, _, rfl, f, y, q', rfl, f0, hq2, _, hz3, ?_, same_seqT_upd s3 hD2 hz3, ?_⟩)⟩
        · rw [List.length_map, List.length_map, List.length_take]
          exact small1000 (by omega)
        · rw [upd_same, List.take_add_one, hq1, List.map_append, List.map_append]
          rfl
      · rintro H3 ⟨s3, hz3⟩
        rw [lu, List.take_of_length_le (Nat.le_refl _)] at hz3
        have hz' := s3 _ _ hz
        refine ⟨D2, qs.map (isNB f), rfl, SqL.of hz3, _, hz', ?_, same_seqT_upd (s2.trans s3) hD hz', ?_⟩
        · rw [List.length_map, List.length_map, List.length_take]
          exact small1000 (by omega)
        · rw [upd_same, List.take_add_one, eq, List.map_append, List.map_append, List.all_map]
          rfl
    · rintro H2 ⟨s2, hz⟩
      rw [lx, List.take_of_length_le (Nat.le_refl _)] at hz
      refine ⟨D, QS.map fun qs => qs.all (isNB f), rfl, SqL.of hz, ?_⟩
      rw [List.all_map]
      exact q _ s2
def lensB (ns : List Nat) (QS : List (List Pr)) : Bool := (List.zipWith (fun (n : Nat) (qs : List Pr) => decide ((qs.length : Int) = (n : Int))) ns QS).all id
theorem okCols_split {f : Int} : ∀ {ns : List Nat} {QS : List (List Pr)}, QS.length = ns.length → okCols f ns QS = (lensB ns QS && QS.all fun qs => qs.all (isNB f))
  | [], [], _ => rfl
  | [], _ :: _, h => by cases h
  | _ :: _, [], h => by cases h
  | n :: ns, q :: QS, h => by
    have ih := okCols_split (f := f) (ns := ns) (QS := QS) (Nat.succ.inj h)
    unfold okCols lensB at ih ⊢
    rw [decide_eq_true (Nat.succ.inj h), Bool.true_and] at ih
    rw [decide_eq_true h, Bool.true_and]
    show (okCol f n q && (List.zipWith (fun (n : Nat) qs => okCol f n qs) ns QS).all id) = ((decide ((q.length : Int) = (n : Int)) && (List.zipWith (fun (n : Nat) (qs : List Pr) => decide ((qs.length : Int) = (n : Int))) ns QS).all id) && (q.all (isNB f) && QS.all fun qs => qs.all (isNB f)))
    rw [ih]
    unfold okCol
    generalize decide ((q.length : Int) = (n : Int)) = a
    generalize q.all (isNB f) = b
    generalize (List.zipWith (fun (n : Nat) (qs : List Pr) => decide ((qs.length : Int) = (n : Int))) ns QS).all id = c
    generalize (QS.all fun qs => qs.all (isNB f)) = d
    cases a <;> cases b <;> cases c <;> cases d <;> rfl
def spLAreC (K : PySem.W.Frag) : Sp := fun vs H Q _ => ∃ (f : Int) (u : Bool) (r p : Addr) (xs : List V) (QS : List (List Pr)) (ns : List Nat), vs = [.int f, .ref r, .ref p] ∧ 0 ≤ f ∧ SqL K H r xs ∧ ColsQ K H xs QS ∧ ZM.Sq u K H p (intsV ns) ∧ QS.length ≤ 900 ∧ ns.length ≤ 900 ∧ (∀ qs ∈ QS, qs.length ≤ 900) ∧ ∀ H', Same H H' → Q (.bl (okCols f ns QS)) H'
theorem len__law_are_columns {K vs H Q E} (h : spLAreC K vs H Q E) : vs.length = 3 := by
  obtain ⟨f, u, r, p, xs, QS, ns, rfl, _⟩ := h
  rfl
theorem d__law_are_columns {P : Program} {w : World} {K : PySem.W.Frag} {mg : Str → Option Value} {base : Heap} (R : Raw K mg "_law_are_columns" s__law_are_columns) (B : Bn mg) (D__law_numbers_good : Def P w K mg base "_law_numbers_good" 3 ["_law_field_here", "_law_rows"] (spNumGood K)) : Def P w K mg base "_law_are_columns" 4 ["_law_field_here", "_law_columns", "_law_rooms"] (spLAreC K) := by
  obtain ⟨f, fd, F, m⟩ := R
  obtain ⟨f__law_numbers_good, fd__law_numbers_good, G__law_numbers_good, m__law_numbers_good, k__law_numbers_good, b__law_numbers_good⟩ := D__law_numbers_good
  refine ⟨f, fd, F.ok sc__law_are_columns (fun vs H Q E h => ?_) (fun cdv A outer s H vs Q E hr h => ?_), m, F.kp, F.binds (ps := ["_law_field_here", "_law_columns", "_law_rooms"]) fun _ _ _ _ _ _ us hl => match us, hl with | [_, _, _], _ => rfl⟩
  · exact len__law_are_columns h

  · obtain ⟨f, u, r, p, xs, QS, ns, rfl, f0, hR, hQ, hP, l9, m9, n9, q⟩ := h
    refine ⟨_, (pss_cons (ps_if (PW.pt (pw_or (pt_cmpR op_ne (pe_callB call_len_seq (by rfl) B.len PySem.boot_len (pa_cons (pv 1) pa_nil)) (pe_callB call_len_seq (by rfl) B.len PySem.boot_len (pa_cons (pv 2) pa_nil)) (nomark _)) (pw_or1 (pt_not (pt_val (pe_callB (cr_all rfl) (by rfl) B.all (by decide +kernel) (pa_cons (pe_lc (own := [("_law_k", 3)]) (g := gName 3) (tt := tYes) rfl sc__law_are_columns.nd (pi_range1 (by rfl) B.range (pa_cons (pe_callB call_len_seq (by rfl) B.len PySem.boot_len (pa_cons (pv 2) pa_nil)) pa_nil)) (blkOk_by (N := ["_law_field_here", "_law_columns", "_law_rooms", "_law_k"]) (sc := defScope s__law_are_columns) (by decide +kernel)) (fun _ _ _ _ _ => pg_name (i := 3) sc__law_are_columns.nd rfl (Or.inl rfl)) (fun _ _ _ _ _ => pts_nil) (fun _ _ _ _ _ => (pe_cmpR op_eq (pe_callB (show CallR _ _ (rLen K) from cr_len) (by rfl) B.len PySem.boot_len (pa_cons (pe_ix (show IxR _ (rIxL K) from ix_list) (pv 1) (pv 3) (fun _ _ => rfl)) pa_nil)) (pe_ix (show IxR _ (rIx K) from ix_seq) (pv 2) (pv 3) (fun _ _ => rfl)) (nomark _)))) pa_nil))))))) (pss_one (ps_ret pe_bl)) pss_nil) (pss_one (ps_ret (pe_call G__law_numbers_good (hr.mono (by omega)) (by rfl) m__law_numbers_good k__law_numbers_good b__law_numbers_good .nil pass0 (pa_cons (pv 0) (pa_cons (pv 1) pa_nil)))))), ?_⟩
    have lx := hQ.len
    have lI : (intsV ns).length = ns.length := intsV_len
    refine ⟨_, rfl, r, xs, rfl, .inl hR, _, rfl, p, _, rfl, sq_or hP, rfl, _, rfl, ite2 (fun e => ?_) (fun e => ?_)⟩
    · have e := neE e
      have e2 : okCols f ns QS = false := by
        unfold okCols
        rw [decide_eq_false (by omega), Bool.false_and]
      have := q _ (Same.refl H)
      rw [e2] at this
      exact this
    · have e := neN e
      have el : QS.length = ns.length := by omega
      refine ⟨_, rfl, p, _, rfl, sq_or hP, (ns.length : Nat), (by rw [lI]), by omega, by omega, fun D hD => ?_⟩
      refine lc_range (lo := 0) (n := ((ns.length : Nat) : Int).toNat) (fun j H' => Same H H' ∧ H' D = some (.lst (((List.zipWith (fun (n : Nat) (qs : List Pr) => decide ((qs.length : Int) = (n : Int))) ns QS).take j).map V.bl))) ⟨same_new hD, upd_same⟩ ?_ ?_
      · rintro j H2 hj ⟨s2, hz⟩
        have hjw : j < ns.length := by omega
        have e0 : (0 : Int) + (j : Int) = ((j : Nat) : Int) := Int.zero_add _
        rw [e0]
        have ej : xs[j]? = some xs[j] := List.getElem?_eq_getElem (by omega)
        obtain ⟨qs, eq, pc, us, ex, hu, hn⟩ := (hQ.tk (Tk.same s2)).pickV ej
        have lu := hn.len
        have en : ns[j]? = some ns[j] := List.getElem?_eq_getElem hjw
        have eI : (intsV ns)[j]? = some (.int ((ns[j] : Nat) : Int)) := by
          unfold intsV
          rw [List.getElem?_map, en]
          rfl
        refine ⟨rfl, tYes_of (iteT ⟨_, rfl, _, rfl, r, xs, _, _, rfl, rfl, s2.seq hR, atI_nat (by rw [ej, ex]), pc, us, rfl, .inr hu, _, rfl, _, rfl, ix_sq (Sq.same s2 hP) (atI_nat eI) ?_⟩)⟩
        refine ⟨rfl, _, hz, ?_, same_seqT_upd s2 hD hz, ?_⟩
        · rw [List.length_map, List.length_take, List.length_zipWith]
          exact small1000 (by omega)
        · have ez : (List.zipWith (fun (n : Nat) (qs : List Pr) => decide ((qs.length : Int) = (n : Int))) ns QS)[j]? = some (decide ((qs.length : Int) = ((ns[j] : Nat) : Int))) := by
            rw [List.getElem?_zipWith, en, eq]
          rw [upd_same, List.take_add_one, ez, List.map_append, decI, lu]
          rfl
      · rintro H2 ⟨s2, hz⟩
        rw [List.take_of_length_le (by rw [List.length_zipWith, Int.toNat_natCast]; omega)] at hz
        refine ⟨D, List.zipWith (fun (n : Nat) (qs : List Pr) => decide ((qs.length : Int) = (n : Int))) ns QS, rfl, SqL.of hz, ?_⟩
        have esp := okCols_split (f := f) el
        refine ⟨_, rfl, ?_⟩
        show (if (!lensB ns QS) = true then _ else _)
        cases hl : lensB ns QS with
        | false =>
          rw [hl, Bool.false_and] at esp
          have := q _ s2
          rw [esp] at this
          exact iteT this
        | true =>
          rw [hl, Bool.true_and] at esp
          refine iteF ⟨_, rfl, _, rfl, f, false, r, xs, QS, rfl, f0, s2.seq hR, hQ.tk (Tk.same s2), l9, n9, fun H3 s3 => ?_⟩
          rw [← esp]
          exact q _ (s2.trans s3)
/-- what is bent of columns -/
def BentQ (f : Int) (QS QS' : List (List Pr)) : Prop := QS'.length = QS.length → ∀ (i : Nat) (qs' : List Pr), QS'[i]? = some qs' → ∃ qs, QS[i]? = some qs ∧ (qs'.length = qs.length → ∀ (j : Nat) (q : Pr), qs'[j]? = some q → isNB f q = true → qs[j]? = some q ∨ S99 q)
/-- longer or shorter by a column -/
theorem bent_len {f : Int} {QS QS' : List (List Pr)} (h : QS'.length ≠ QS.length) : BentQ f QS QS' := fun e => absurd e h
theorem bent_tail {f : Int} {QS : List (List Pr)} : BentQ f QS (QS.drop 1) := by
  cases QS with
  | nil => exact fun _ i qs' e => by simp at e
  | cons a QS => exact bent_len (by simp)
theorem ColsQ.drop {K : PySem.W.Frag} {H : Hp} : ∀ {xs : List V} {QS : List (List Pr)} (i : Nat), ColsQ K H xs QS → ColsQ K H (xs.drop i) (QS.drop i)
  | _, _, 0, h => h
  | _, _, _ + 1, .nil => .nil
  | _, _, i + 1, .cons _ t => ColsQ.drop (i := i) t
theorem ColsQ.set {K : PySem.W.Frag} {H : Hp} {v : V} {qs : List Pr} (h : ColQ K H v qs) : ∀ {xs : List V} {QS : List (List Pr)} (i : Nat), ColsQ K H xs QS → ColsQ K H (xs.set i v) (QS.set i qs)
  | _, _, _, .nil => .nil
  | _, _, 0, .cons _ t => .cons h t
  | _, _, i + 1, .cons g t => .cons g (ColsQ.set h i t)
theorem cutV_drop1 {xs : List V} : cutV xs (some 1) none = xs.drop 1 := cutV_from xs 1
theorem catA_go {K : PySem.W.Frag} {a b : Addr} {xs ys : List V} {H : Hp} {Q : VK} (ha : SqT K H a xs) (hb : SqT K H b ys) (hz : xs.length + ys.length ≤ sizeLine) (q : ∀ H' p, Same H H' → SqT K H' p (xs ++ ys) → Q (.ref p) H') : rCatA K (.ref a) (.ref b) H Q := by
  refine ⟨a, b, xs, ys, rfl, rfl, ha, hb, hz, fun e => ?_, fun _ e => ?_, fun _ _ p hp => q _ _ (same_new hp) (SqT.of upd_same)⟩
  · subst e
    exact q _ _ (Same.refl H) hb
  · subst e
    rw [List.append_nil] at q
    exact q _ _ (Same.refl H) ha
theorem slA_go {K : PySem.W.Frag} {a : Addr} {xs : List V} {lo hi : Option Int} {H : Hp} {Q : VK} (ha : SqT K H a xs) (q : ∀ H' p, Same H H' → SqT K H' p (cutV xs lo hi) → Q (.ref p) H') : rSlA K (.ref a) lo hi H Q := by
  refine ⟨a, xs, rfl, ha, fun e => ?_, fun _ p hp => q _ _ (same_new hp) (SqT.of upd_same)⟩
  refine q _ _ (Same.refl H) ?_
  unfold cutV
  rw [e.1, e.2, List.drop_zero, Nat.sub_zero, List.take_of_length_le (Nat.le_refl _)]
  exact ha
theorem cutV_last {xs : List V} : cutV xs none (some (-1)) = xs.dropLast := by
  unfold cutV
  rw [HT.sIx_none, List.drop_zero, Nat.sub_zero, List.dropLast_eq_take]
  congr 1
  show ((-1 : Int) + (xs.length : Int)).toNat = xs.length - 1
  omega
theorem rep_nums {K : PySem.W.Frag} {H : Hp} {v : V} {q : Pr} (h : NumV K H v q) : ∀ {n : Nat}, NumsV K H (List.replicate n [v]).flatten (List.replicate n q)
  | 0 => .nil
  | n + 1 => .cons h (rep_nums h)
theorem NumsV.dropLast {K : PySem.W.Frag} {H : Hp} {vs : List V} {qs : List Pr} (h : NumsV K H vs qs) : NumsV K H vs.dropLast qs.dropLast := by
  rw [List.dropLast_eq_take, List.dropLast_eq_take, h.len]
  exact NumsV.take _ h
theorem isF_99 {f : Int} (h : IsF f) : f.natAbs ≤ 99 := by
  rcases h with rfl | ⟨p, hp, rfl⟩
  · decide
  · have : ∀ x ∈ primesN, x ≤ 99 := by decide +kernel
    exact this p hp
def spBentC (K : PySem.W.Frag) : Sp := fun vs H Q _ => ∃ (box l : Addr) (f : Int) (r : Addr) (xs : List V) (QS : List (List Pr)), vs = [.ref box, .int f, .ref r] ∧ BoxAt H box l ∧ IsF f ∧ SqL K H r xs ∧ r ≠ box ∧ ColsQ K H xs QS ∧ QS.length ≤ 100 ∧ (∀ qs ∈ QS, qs.length ≤ 100) ∧
  ∀ H' D ys QS', Stp box l H H' → H D = none → H' D = some (.lst ys) → ColsQ K H' ys QS' → QS'.length ≤ 101 → (∀ qs ∈ QS', qs.length ≤ 101) → BentQ f QS QS' → Q (.ref D) H'
theorem len__law_bent_columns {K vs H Q E} (h : spBentC K vs H Q E) : vs.length = 3 := by
  obtain ⟨box, l, f, r, xs, QS, rfl, _⟩ := h
  rfl
theorem d__law_bent_columns {P : Program} {w : World} {K : PySem.W.Frag} {mg : Str → Option Value} {base : Heap} (R : Raw K mg "_law_bent_columns" s__law_bent_columns) (B : Bn mg) (D__law_draw : Def P w K mg base "_law_draw" 1 ["_law_box", "_law_many"] (spDraw)) (D__law_any : Def P w K mg base "_law_any" 2 ["_law_box", "_law_some"] (spAny K)) : Def P w K mg base "_law_bent_columns" 3 ["_law_box", "_law_field_here", "_law_columns"] (spBentC K) := by
  obtain ⟨f, fd, F, m⟩ := R
  obtain ⟨f__law_draw, fd__law_draw, G__law_draw, m__law_draw, k__law_draw, b__law_draw⟩ := D__law_draw
  obtain ⟨f__law_any, fd__law_any, G__law_any, m__law_any, k__law_any, b__law_any⟩ := D__law_any
  refine ⟨f, fd, F.ok sc__law_bent_columns (fun vs H Q E h => ?_) (fun cdv A outer s H vs Q E hr h => ?_), m, F.kp, F.binds (ps := ["_law_box", "_law_field_here", "_law_columns"]) fun _ _ _ _ _ _ us hl => match us, hl with | [_, _, _], _ => rfl⟩
  · exact len__law_bent_columns h

  · obtain ⟨box, l, f, r, xs, QS, rfl, hb, hf, hR, nrb, hQ, l9, n9, q⟩ := h
    refine ⟨_, (pss_cons (ps_set (i := 3) sc__law_bent_columns.nd rfl (Or.inl rfl) (pe_callTy call_list_of (by rfl) B.list (by decide +kernel) (pa_cons (pv 2) pa_nil))) (pss_cons (ps_set (i := 4) sc__law_bent_columns.nd rfl (Or.inl rfl) (pe_call G__law_draw (hr.mono (by omega)) (by rfl) m__law_draw k__law_draw b__law_draw .nil pass0 (pa_cons (pv 0) (pa_cons pe_int pa_nil)))) (pss_cons (ps_set (i := 5) sc__law_bent_columns.nd rfl (Or.inl rfl) (pe_call G__law_draw (hr.mono (by omega)) (by rfl) m__law_draw k__law_draw b__law_draw .nil pass0 (pa_cons (pv 0) (pa_cons (pe_op op_add (pe_callB call_len_seq (by rfl) B.len PySem.boot_len (pa_cons (pv 3) pa_nil)) pe_int) pa_nil)))) (pss_cons (ps_if (PW.pt (pw_or (pt_cmpR op_lt (pv 4) pe_int (nomark _)) (pw_or1 (pt_cmpR op_eq (pv 5) (pe_callB call_len_seq (by rfl) B.len PySem.boot_len (pa_cons (pv 3) pa_nil)) (nomark _))))) (pss_one (ps_ret (pe_ix ix_list (pe_lst (pa_cons (pe_op op_cat (pv 3) (pe_lst (pa_cons (pe_tup pa_nil) pa_nil))) (pa_cons (pe_slice sl_list (pv 3) (po_some pe_int) po_none) pa_nil))) (pe_callTy call_int1 (by rfl) B.int (by decide +kernel) (pa_cons (pe_cmpR op_eq (pv 4) pe_int (nomark _)) pa_nil)) (fun _ _ => rfl)))) pss_nil) (pss_cons (ps_set (i := 6) sc__law_bent_columns.nd rfl (Or.inl rfl) (pe_call G__law_any (hr.mono (by omega)) (by rfl) m__law_any k__law_any b__law_any .nil pass0 (pa_cons (pv 0) (pa_cons (pe_lst (pa_cons (pe_tup (pa_cons pe_int (pa_cons pe_int pa_nil))) (pa_cons (pe_tup (pa_cons pe_int (pa_cons pe_int pa_nil))) (pa_cons (pe_tup (pa_cons pe_int (pa_cons (pe_un un_neg pe_int) pa_nil))) (pa_cons (pe_tup (pa_cons (pv 1) (pa_cons pe_int pa_nil))) (pa_cons (pe_tup (pa_cons (pe_un un_neg pe_int) (pa_cons pe_int pa_nil))) (pa_cons (pe_tup (pa_cons pe_int (pa_cons pe_int pa_nil))) pa_nil))))))) pa_nil)))) (pss_cons (ps_set (i := 7) sc__law_bent_columns.nd rfl (Or.inl rfl) (pe_op (show OpR _ _ (rCatA K) from op_catA) (pe_slice (show SlR _ (rSlA K) from sl_tupA) (pe_ix ix_list (pv 3) (pv 5) (fun _ _ => rfl)) po_none (po_some (pe_un un_neg pe_int))) (pe_op op_repA (pe_tup (pa_cons (pv 6) pa_nil)) (pe_callB (call_min2 rfl) (by rfl) B.min (by decide +kernel) (pa_cons pe_int (pa_cons (pe_callB call_len_seq (by rfl) B.len PySem.boot_len (pa_cons (pe_ix ix_list (pv 3) (pv 5) (fun _ _ => rfl)) pa_nil)) pa_nil)))))) (pss_cons (ps_asg (pe_ix ix_list (pe_lst (pa_cons (pe_op (show OpR _ _ (rCatA K) from op_catA) (pe_ix ix_list (pv 3) (pv 5) (fun _ _ => rfl)) (pe_tup (pa_cons (pe_tup (pa_cons pe_int (pa_cons pe_int pa_nil))) pa_nil))) (pa_cons (pe_slice (show SlR _ (rSlA K) from sl_tupA) (pe_ix ix_list (pv 3) (pv 5) (fun _ _ => rfl)) (po_some pe_int) po_none) (pa_cons (pv 7) (pa_cons (pv 7) pa_nil))))) (pe_op op_sub (pv 4) pe_int) (fun _ _ => rfl)) (pg_sub (pv 3) (pv 5) set_list)) (pss_one (ps_ret (pv 3)))))))))), ?_⟩
    have lx := hQ.len
    refine ⟨_, rfl, r, xs, rfl, .inl hR, fun D hD => ?_⟩
    have s1 := same_new (o := .lst xs) hD
    have eD : (upd H D (.lst xs)) D = some (.lst xs) := upd_same
    have hb1 := hb.same s1
    have nDb : D ≠ box := hb.ne hD
    have hQ1 := hQ.tk (Tk.same (K := K) s1)
    have hS1 := (Stp.refl hb).same s1
    generalize upd H D (.lst xs) = H1 at *
    refine ⟨_, rfl, box, l, 6, rfl, hb1, by decide, log_small (by decide) (by decide), fun H2 pk st2 p0 p6 => ?_⟩
    have hb2 := st2.box
    have eD2 := st2.keep _ _ nDb eD
    have hQ2 := hQ1.tk (Tk.stp (K := K) hb1 st2)
    refine ⟨_, rfl, _, rfl, D, xs, rfl, .inl (SqL.of eD2), _, _, rfl, rfl, box, l, _, rfl, hb2, by omega, log_small (by omega) (by omega), fun H3 at' st3 a0 a1 => ?_⟩
    have hb3 := st3.box
    have eD3 := st3.keep _ _ nDb eD2
    have hQ3 := hQ2.tk (Tk.stp (K := K) hb2 st3)
    have hS3 := (hS1.trans st2).trans st3
    refine ⟨_, rfl, _, _, rfl, rfl, _, rfl, ite2 (fun e => ?_) (fun e => ?_)⟩
    · refine iteT ⟨_, rfl, Nat.zero_le _, fun T0 nT0 => ⟨small1000 (Nat.zero_le _), fun L1 nL1 => ?_⟩⟩
      have t1 := same_new (o := .tup []) nT0
      have eT0 : (upd H3 T0 (.tup [])) T0 = some (.tup []) := upd_same
      generalize upd H3 T0 (.tup []) = H4 at *
      have t2 := same_new (o := .lst [.ref T0]) nL1
      have eL1 : (upd H4 L1 (.lst [.ref T0])) L1 = some (.lst [.ref T0]) := upd_same
      generalize upd H4 L1 (.lst [.ref T0]) = H5 at *
      have t35 := t1.trans t2
      refine ⟨D, L1, xs, [.ref T0], rfl, rfl, t35 _ _ eD3, eL1, small1000 (by omega), fun A nA => ?_⟩
      have t3 := same_new (o := .lst (xs ++ [.ref T0])) nA
      have eA : (upd H5 A (.lst (xs ++ [.ref T0]))) A = some (.lst (xs ++ [.ref T0])) := upd_same
      generalize upd H5 A (.lst (xs ++ [.ref T0])) = H6 at *
      have t36 := t35.trans t3
      refine ⟨_, rfl, _, rfl, D, xs, rfl, SqL.of (t36 _ _ eD3), fun B nB => ?_⟩
      have t4 := same_new (o := .lst (cutV xs (some 1) none)) nB
      have eB : (upd H6 B (.lst (cutV xs (some 1) none))) B = some (.lst (cutV xs (some 1) none)) := upd_same
      generalize upd H6 B (.lst (cutV xs (some 1) none)) = H7 at *
      have t37 := t36.trans t4
      refine ⟨small1000 (by show 1 ≤ 1000; decide), fun L2 nL2 => ?_⟩
      have t5 := same_new (o := .lst [.ref A, .ref B]) nL2
      have eL2 : (upd H7 L2 (.lst [.ref A, .ref B])) L2 = some (.lst [.ref A, .ref B]) := upd_same
      generalize upd H7 L2 (.lst [.ref A, .ref B]) = H8 at *
      have t38 := t37.trans t5
      have t48 := t4.trans t5
      have hQ8 := hQ3.tk (Tk.same (K := K) t38)
      have st8 := hS3.same t38
      refine ⟨_, rfl, rfl, .inr ⟨_, rfl, ?_⟩⟩
      by_cases c : pk = 1
      · refine ⟨L2, _, _, .ref B, rfl, rfl, SqL.of eL2, ?_, ?_⟩
        · rw [c]
          rfl
        · refine q _ B (cutV xs (some 1) none) (QS.drop 1) st8 ?_ (t5 _ _ eB) ?_ ?_ (fun qs h => ?_) bent_tail
          · exact (hS3.same t36).free nB
          · rw [cutV_drop1]
            exact hQ8.drop 1
          · rw [List.length_drop]
            omega
          · have := n9 qs (List.mem_of_mem_drop h)
            omega
      · refine ⟨L2, _, _, .ref A, rfl, rfl, SqL.of eL2, ?_, ?_⟩
        · have : decide (V.int pk = V.int 1) = false := decide_eq_false fun z => c (by cases z; rfl)
          rw [this]
          rfl
        · refine q _ A (xs ++ [.ref T0]) (QS ++ [[]]) st8 ?_ (t48 _ _ eA) (hQ8.snoc ⟨T0, [], rfl, SqT.of ((((t2.trans t3).trans t4).trans t5) _ _ eT0), .nil⟩) (by rw [List.length_append]; exact Nat.succ_le_succ l9) (fun qs h => ?_) (bent_len (by rw [List.length_append]; exact Nat.succ_ne_self _))
          · exact (hS3.same t35).free nA
          · rcases List.mem_append.mp h with h | h
            · have := n9 qs h
              omega
            · rw [List.mem_singleton.mp h]
              exact Nat.zero_le _
    · refine ⟨_, rfl, _, rfl, D, xs, rfl, .inl (SqL.of eD3), rfl, _, rfl, ?_⟩
      by_cases c0 : at' = (xs.length : Int)
      · rw [c0, decide_eq_true rfl]
        refine iteT ⟨_, rfl, Nat.zero_le _, fun T0 nT0 => ⟨small1000 (Nat.zero_le _), fun L1 nL1 => ?_⟩⟩
        have t1 := same_new (o := .tup []) nT0
        have eT0 : (upd H3 T0 (.tup [])) T0 = some (.tup []) := upd_same
        generalize upd H3 T0 (.tup []) = H4 at *
        have t2 := same_new (o := .lst [.ref T0]) nL1
        have eL1 : (upd H4 L1 (.lst [.ref T0])) L1 = some (.lst [.ref T0]) := upd_same
        generalize upd H4 L1 (.lst [.ref T0]) = H5 at *
        have t35 := t1.trans t2
        refine ⟨D, L1, xs, [.ref T0], rfl, rfl, t35 _ _ eD3, eL1, small1000 (by omega), fun A nA => ?_⟩
        have t3 := same_new (o := .lst (xs ++ [.ref T0])) nA
        have eA : (upd H5 A (.lst (xs ++ [.ref T0]))) A = some (.lst (xs ++ [.ref T0])) := upd_same
        generalize upd H5 A (.lst (xs ++ [.ref T0])) = H6 at *
        have t36 := t35.trans t3
        refine ⟨_, rfl, _, rfl, D, xs, rfl, SqL.of (t36 _ _ eD3), fun B nB => ?_⟩
        have t4 := same_new (o := .lst (cutV xs (some 1) none)) nB
        have eB : (upd H6 B (.lst (cutV xs (some 1) none))) B = some (.lst (cutV xs (some 1) none)) := upd_same
        generalize upd H6 B (.lst (cutV xs (some 1) none)) = H7 at *
        have t37 := t36.trans t4
        refine ⟨small1000 (by show 1 ≤ 1000; decide), fun L2 nL2 => ?_⟩
        have t5 := same_new (o := .lst [.ref A, .ref B]) nL2
        have eL2 : (upd H7 L2 (.lst [.ref A, .ref B])) L2 = some (.lst [.ref A, .ref B]) := upd_same
        generalize upd H7 L2 (.lst [.ref A, .ref B]) = H8 at *
        have t38 := t37.trans t5
        have t48 := t4.trans t5
        have hQ8 := hQ3.tk (Tk.same (K := K) t38)
        have st8 := hS3.same t38
        refine ⟨_, rfl, rfl, .inr ⟨_, rfl, ?_⟩⟩
        by_cases c : pk = 1
        · refine ⟨L2, _, _, .ref B, rfl, rfl, SqL.of eL2, ?_, ?_⟩
          · rw [c]
            rfl
          · refine q _ B (cutV xs (some 1) none) (QS.drop 1) st8 ?_ (t5 _ _ eB) ?_ ?_ (fun qs h => ?_) bent_tail
            · exact (hS3.same t36).free nB
            · rw [cutV_drop1]
              exact hQ8.drop 1
            · rw [List.length_drop]
              omega
            · have := n9 qs (List.mem_of_mem_drop h)
              omega
        · refine ⟨L2, _, _, .ref A, rfl, rfl, SqL.of eL2, ?_, ?_⟩
          · have : decide (V.int pk = V.int 1) = false := decide_eq_false fun z => c (by cases z; rfl)
            rw [this]
            rfl
          · refine q _ A (xs ++ [.ref T0]) (QS ++ [[]]) st8 ?_ (t48 _ _ eA) (hQ8.snoc ⟨T0, [], rfl, SqT.of ((((t2.trans t3).trans t4).trans t5) _ _ eT0), .nil⟩) (by rw [List.length_append]; exact Nat.succ_le_succ l9) (fun qs h => ?_) (bent_len (by rw [List.length_append]; exact Nat.succ_ne_self _))
            · exact (hS3.same t35).free nA
            · rcases List.mem_append.mp h with h | h
              · have := n9 qs h
                omega
              · rw [List.mem_singleton.mp h]
                exact Nat.zero_le _
      · rw [decide_eq_false (fun z => c0 (V.int.inj z))]
        refine iteF ?_
        refine nx_go3 ?_
        refine ⟨_, rfl, ?_⟩
        refine ⟨small1000 (by show 1 ≤ 1000; decide), fun T0 n0 => ?_⟩
        have t0 := same_new (o := .tup [V.int 3, V.int 0]) n0
        have e0 : (upd H3 T0 (.tup [V.int 3, V.int 0])) T0 = some (.tup [V.int 3, V.int 0]) := upd_same
        generalize upd H3 T0 (.tup [V.int 3, V.int 0]) = H4 at *
        refine ⟨small1000 (by show 1 ≤ 1000; decide), fun T1 n1 => ?_⟩
        have t1 := same_new (o := .tup [V.int 2, V.int 4]) n1
        have e1 : (upd H4 T1 (.tup [V.int 2, V.int 4])) T1 = some (.tup [V.int 2, V.int 4]) := upd_same
        generalize upd H4 T1 (.tup [V.int 2, V.int 4]) = H5 at *
        refine ⟨_, rfl, small1000 (by show 1 ≤ 1000; decide), fun T2 n2 => ?_⟩
        have t2 := same_new (o := .tup [V.int 1, V.int (-1)]) n2
        have e2 : (upd H5 T2 (.tup [V.int 1, V.int (-1)])) T2 = some (.tup [V.int 1, V.int (-1)]) := upd_same
        generalize upd H5 T2 (.tup [V.int 1, V.int (-1)]) = H6 at *
        refine ⟨_, rfl, small1000 (by show 1 ≤ 1000; decide), fun T3 n3 => ?_⟩
        have t3 := same_new (o := .tup [V.int f, V.int 1]) n3
        have e3 : (upd H6 T3 (.tup [V.int f, V.int 1])) T3 = some (.tup [V.int f, V.int 1]) := upd_same
        generalize upd H6 T3 (.tup [V.int f, V.int 1]) = H7 at *
        refine ⟨_, rfl, small1000 (by show 1 ≤ 1000; decide), fun T4 n4 => ?_⟩
        have t4 := same_new (o := .tup [V.int (-1), V.int 1]) n4
        have e4 : (upd H7 T4 (.tup [V.int (-1), V.int 1])) T4 = some (.tup [V.int (-1), V.int 1]) := upd_same
        generalize upd H7 T4 (.tup [V.int (-1), V.int 1]) = H8 at *
        refine ⟨small1000 (by show 1 ≤ 1000; decide), fun T5 n5 => ?_⟩
        have t5 := same_new (o := .tup [V.int 1, V.int 2]) n5
        have e5 : (upd H8 T5 (.tup [V.int 1, V.int 2])) T5 = some (.tup [V.int 1, V.int 2]) := upd_same
        generalize upd H8 T5 (.tup [V.int 1, V.int 2]) = H9 at *
        refine ⟨(by show 6 ≤ sizeLine; decide), fun L6 n6 => ?_⟩
        have t6 := same_new (o := .lst [.ref T0, .ref T1, .ref T2, .ref T3, .ref T4, .ref T5]) n6
        have e6 : (upd H9 L6 (.lst [.ref T0, .ref T1, .ref T2, .ref T3, .ref T4, .ref T5])) L6 = some (.lst [.ref T0, .ref T1, .ref T2, .ref T3, .ref T4, .ref T5]) := upd_same
        generalize upd H9 L6 (.lst [.ref T0, .ref T1, .ref T2, .ref T3, .ref T4, .ref T5]) = H10 at *
        have t56 := t5.trans t6
        have t46 := t4.trans t56
        have t36 := t3.trans t46
        have t26 := t2.trans t36
        have t16 := t1.trans t26
        have t06 := t0.trans t16
        have hb10 := hb3.same t06
        have f99 := isF_99 hf
        have sOdd : ∀ x ∈ ([.ref T0, .ref T1, .ref T2, .ref T3, .ref T4, .ref T5] : List V), ∃ q, NumV K H10 x q ∧ S99 q := by
          intro x hx
          simp only [List.mem_cons, List.not_mem_nil, or_false] at hx
          rcases hx with rfl | rfl | rfl | rfl | rfl | rfl
          · exact ⟨(3, 0), ⟨T0, rfl, SqT.of (t16 _ _ e0)⟩, by decide, by decide⟩
          · exact ⟨(2, 4), ⟨T1, rfl, SqT.of (t26 _ _ e1)⟩, by decide, by decide⟩
          · exact ⟨(1, -1), ⟨T2, rfl, SqT.of (t36 _ _ e2)⟩, by decide, by decide⟩
          · exact ⟨(f, 1), ⟨T3, rfl, SqT.of (t46 _ _ e3)⟩, f99, (by show 1 ≤ 99; decide)⟩
          · exact ⟨(-1, 1), ⟨T4, rfl, SqT.of (t56 _ _ e4)⟩, by decide, by decide⟩
          · exact ⟨(1, 2), ⟨T5, rfl, SqT.of (t6 _ _ e5)⟩, by decide, by decide⟩
        refine ⟨box, l, L6, _, rfl, hb10, SqL.of e6, (hb3.same (t0.trans (t1.trans (t2.trans (t3.trans (t4.trans t5)))))).ne n6, by simp, (by show 6 ≤ 1000; decide), fun H11 odd st11 hodd => ?_⟩
        obtain ⟨qo, hqo, so⟩ := sOdd odd hodd
        have hqo := hqo.tk (Tk.stp (K := K) hb10 st11)
        have hS11 := (hS3.same t06).trans st11
        have eD11 := st11.keep _ _ nDb (t06 _ _ eD3)
        have hQ11 := (hQ3.tk (Tk.same (K := K) t06)).tk (Tk.stp (K := K) hb10 st11)
        clear sOdd hodd
        have a2 : at'.toNat < xs.length := by omega
        have eat : at' = ((at'.toNat : Nat) : Int) := by omega
        generalize at'.toNat = n at *
        subst eat
        have ex : xs[n]? = some xs[n] := List.getElem?_eq_getElem a2
        obtain ⟨qs, eq, pc, us, ec, hu, hn⟩ := hQ11.pickV ex
        have lu := hn.len
        have q9 := n9 qs (List.mem_of_getElem? eq)
        refine ⟨_, rfl, _, rfl, D, xs, _, _, rfl, rfl, SqL.of eD11, atI_nat (by rw [ex, ec]), ?_⟩
        refine ⟨_, rfl, _, rfl, slA_go hu fun H12 A1 s12 hA1 => ?_⟩
        rw [cutV_last] at hA1
        refine ⟨_, rfl, small1000 (Nat.zero_le _), fun T7 n7 => ?_⟩
        have s13 := same_new (o := .tup [odd]) n7
        have e7 : (upd H12 T7 (.tup [odd])) T7 = some (.tup [odd]) := upd_same
        generalize upd H12 T7 (.tup [odd]) = H13 at *
        have s1113 := s12.trans s13
        refine ⟨_, rfl, _, rfl, D, xs, _, _, rfl, rfl, SqL.of (s1113 _ _ eD11), atI_nat (by rw [ex, ec]), pc, us, rfl, .inr (Same.seqT s1113 hu), ?_⟩
        obtain ⟨m, em, m1⟩ : ∃ m : Nat, (if ((us.length : Nat) : Int) < 1 then ((us.length : Nat) : Int) else 1) = (m : Int) ∧ m = min 1 us.length := ⟨min 1 us.length, by split <;> omega, rfl⟩
        refine ⟨1, _, rfl, ?_⟩
        rw [em]
        refine ⟨T7, m, [odd], rfl, rfl, SqT.of e7, by simp, by omega, (by show 1 ≤ 1000; decide), fun H14 T8 s14 h8 => ?_⟩
        have s14 : Same H13 H14 := s14
        refine catA_go (Same.seqT (s13.trans s14) hA1) h8 ?_ fun H15 C s15 hC => ?_
        · rw [(rep_nums (n := m) hqo).len, List.length_replicate, List.length_dropLast]
          have : 1000 ≤ sizeLine := by decide
          omega
        have s1115 := (s1113.trans s14).trans s15
        refine ⟨_, rfl, _, rfl, D, xs, _, _, rfl, rfl, SqL.of (s1115 _ _ eD11), atI_nat (by rw [ex, ec]), small1000 (by show 1 ≤ 1000; decide), fun Z1 m1' => ?_⟩
        have s16 := same_new (o := .tup [.int 0, .int 1]) m1'
        have hZ1 : (upd H15 Z1 (.tup [.int 0, .int 1])) Z1 = some (.tup [.int 0, .int 1]) := upd_same
        generalize upd H15 Z1 (.tup [.int 0, .int 1]) = H16 at *
        refine ⟨small1000 (Nat.zero_le _), fun Z2 m2' => ?_⟩
        have s17 := same_new (o := .tup [.ref Z1]) m2'
        have hZ2 : (upd H16 Z2 (.tup [.ref Z1])) Z2 = some (.tup [.ref Z1]) := upd_same
        generalize upd H16 Z2 (.tup [.ref Z1]) = H17 at *
        have s1117 := (s1115.trans s16).trans s17
        refine catA_go (Same.seqT s1117 hu) (SqT.of hZ2) (small1000 (by omega)) fun H18 A2 s18 hA2 => ?_
        refine ⟨_, rfl, _, rfl, D, xs, _, _, rfl, rfl, SqL.of ((s1117.trans s18) _ _ eD11), atI_nat (by rw [ex, ec]), _, rfl, ?_⟩
        unfold tNoPart
        refine slA_go (Same.seqT (s1117.trans s18) hu) fun H19 A3 s19 hA3 => ?_
        rw [cutV_drop1] at hA3
        refine ⟨_, rfl, _, rfl, (by show 4 ≤ sizeLine; decide), fun L7 n7' => ?_⟩
        have s20 := same_new (o := .lst [.ref A2, .ref A3, .ref C, .ref C]) n7'
        have e20 : (upd H19 L7 (.lst [.ref A2, .ref A3, .ref C, .ref C])) L7 = some (.lst [.ref A2, .ref A3, .ref C, .ref C]) := upd_same
        generalize upd H19 L7 (.lst [.ref A2, .ref A3, .ref C, .ref C]) = H20 at *
        have s1120 := ((s1117.trans s18).trans s19).trans s20
        have eD20 := s1120 _ _ eD11
        have hQ20 := hQ11.tk (Tk.same (K := K) s1120)
        have hS20 := hS11.same s1120
        have hA2 := Same.seqT (s19.trans s20) hA2
        have hA3 := Same.seqT s20 hA3
        have hC := Same.seqT ((((s16.trans s17).trans s18).trans s19).trans s20) hC
        have hn20 := hn.tk (Tk.same (K := K) s1120)
        have hqo20 := hqo.tk (Tk.same (K := K) s1120)
        have hz20 : NumV K H20 (.ref Z1) (0, 1) := ⟨Z1, rfl, SqT.of (((s17.trans s18).trans (s19.trans s20)) _ _ hZ1)⟩
        clear hn hqo hQ11 hQ3 hQ2 hQ1 hu
        refine ⟨_, rfl, _, _, rfl, rfl, ?_⟩
        suffices hp : ∀ (X : Addr) (vs : List V) (qs' : List Pr), SqT K H20 X vs → NumsV K H20 vs qs' → qs'.length ≤ 101 → (qs'.length = qs.length → ∀ (j : Nat) (q : Pr), qs'[j]? = some q → isNB f q = true → qs[j]? = some q ∨ S99 q) → Q (.ref D) (upd H20 D (.lst (xs.set n (.ref X)))) by
          have pk2 : 2 ≤ pk := by
            have := of_decide_eq_false (Bool.eq_false_iff.mpr e)
            omega
          suffices hh : ∃ X : Addr, atI [V.ref A2, .ref A3, .ref C, .ref C] (pk - 2) = some (.ref X) ∧ Q (.ref D) (upd H20 D (.lst (xs.set n (.ref X)))) by
            obtain ⟨X, h1, h2⟩ := hh
            exact ⟨L7, _, _, _, rfl, rfl, SqL.of e20, h1, _, rfl, _, rfl, D, xs, _, n, rfl, rfl, eD20, ix_nat a2, _, rfl, h2⟩
          have hpk : pk = 2 ∨ pk = 3 ∨ pk = 4 ∨ pk = 5 := by omega
          have hBent : Q (.ref D) (upd H20 D (.lst (xs.set n (.ref C)))) := by
            refine hp C _ (qs.dropLast ++ List.replicate m qo) hC (NumsV.app (NumsV.dropLast hn20) (rep_nums hqo20)) ?_ fun _ j q hj _ => ?_
            · rw [List.length_append, List.length_replicate, List.length_dropLast]
              omega
            · rcases Nat.lt_or_ge j qs.dropLast.length with h | h
              · rw [List.getElem?_append_left h, List.getElem?_dropLast] at hj
                split at hj
                · exact .inl hj
                · cases hj
              · rw [List.getElem?_append_right h] at hj
                have := List.mem_of_getElem? hj
                rw [List.eq_of_mem_replicate this]
                exact .inr so
          rcases hpk with rfl | rfl | rfl | rfl
          · exact ⟨A2, rfl, hp A2 _ (qs ++ [(0, 1)]) hA2 (NumsV.snoc hn20 hz20) (by rw [List.length_append]; exact Nat.succ_le_succ q9) fun h => absurd h (by rw [List.length_append]; exact Nat.succ_ne_self _)⟩
          · refine ⟨A3, rfl, hp A3 _ (qs.drop 1) hA3 (NumsV.drop 1 hn20) (by rw [List.length_drop]; omega) fun h j q hj _ => ?_⟩
            cases qs with
            | nil => simp at hj
            | cons a qs => simp at h
          · exact ⟨C, rfl, hBent⟩
          · exact ⟨C, rfl, hBent⟩
        intro X vs qs' h1 h2 h3 h4
        refine q _ D (xs.set n (.ref X)) (QS.set n qs') (hS20.put hb hD) hD upd_same ?_ (by rw [List.length_set]; omega) (fun zs h => ?_) fun _ i zs h => ?_
        · exact (hQ20.tk (Tk.put eD20)).set ⟨X, vs, rfl, SqT.put h1 eD20, h2.tk (Tk.put eD20)⟩ n
        · rcases List.mem_or_eq_of_mem_set h with h | h
          · have := n9 zs h
            omega
          · rw [h]
            exact h3
        · by_cases c : i = n
          · subst c
            rw [List.getElem?_set_self (by omega)] at h
            cases h
            exact ⟨qs, eq, h4⟩
          · rw [List.getElem?_set_ne (fun z => c z.symm)] at h
            exact ⟨zs, h, fun _ j q hj _ => .inl hj⟩

open Lin
/-! ## stalkweb.parts: views -/
def ViewOk (sz P : List Nat) : Prop := P ≠ [] ∧ P.Pairwise (· < ·) ∧ (∀ p ∈ P, p < sz.length) ∧ P.length ≤ 8
theorem intsV_get {P : List Nat} {i : Nat} (h : i < P.length) : (intsV P)[i]? = some (V.int ((P.getD i 0 : Nat) : Int)) := by
  unfold intsV
  rw [List.getElem?_map, List.getElem?_eq_getElem h, List.getD_eq_getElem?_getD, List.getElem?_eq_getElem h]
  rfl
theorem pw_at {P : List Nat} (h : P.Pairwise (· < ·)) {i : Nat} (hi : i + 1 < P.length) : P.getD i 0 < P.getD (i + 1) 0 := by
  rw [List.getD_eq_getElem?_getD, List.getD_eq_getElem?_getD, List.getElem?_eq_getElem hi, List.getElem?_eq_getElem (by omega)]
  exact List.pairwise_iff_getElem.mp h i (i + 1) (by omega) hi (by omega)
/-! ### with refusals -/
def insB (n : Nat) (i : Int) : Bool := decide (0 ≤ i ∧ i < (n : Int))
def riseL (P : List Int) : List Bool := List.zipWith (fun a b => decide (a < b)) P (P.drop 1)
def goodV (sz : List Nat) (P : List Int) : Bool := !P.isEmpty && ((riseL P).all id && P.all (insB sz.length))
def toI (P : List Nat) : List Int := P.map fun p : Nat => (p : Int)
theorem toI_ints (P : List Nat) : (toI P).map V.int = intsV P := by
  unfold toI intsV
  rw [List.map_map]
  rfl
theorem riseL_len {P : List Int} : (riseL P).length = P.length - 1 := by
  unfold riseL
  rw [List.length_zipWith, List.length_drop]
  omega
theorem rise_pw : ∀ {P : List Int}, (riseL P).all id = true → P.Pairwise (· < ·)
  | [], _ => .nil
  | [a], _ => List.pairwise_singleton _ _
  | a :: b :: P, h => by
    have e : riseL (a :: b :: P) = decide (a < b) :: riseL (b :: P) := rfl
    rw [e, List.all_cons, Bool.and_eq_true] at h
    have h1 : a < b := of_decide_eq_true h.1
    have ih := rise_pw (P := b :: P) h.2
    refine List.pairwise_cons.mpr ⟨fun x hx => ?_, ih⟩
    rcases List.mem_cons.mp hx with rfl | hx
    · exact h1
    · have := (List.pairwise_cons.mp ih).1 x hx
      omega
theorem pw_rise : ∀ {P : List Int}, P.Pairwise (· < ·) → (riseL P).all id = true
  | [], _ => rfl
  | [a], _ => rfl
  | a :: b :: P, h => by
    have e : riseL (a :: b :: P) = decide (a < b) :: riseL (b :: P) := rfl
    obtain ⟨h1, h2⟩ := List.pairwise_cons.mp h
    rw [e, List.all_cons, pw_rise h2, Bool.and_true]
    exact decide_eq_true (h1 b (List.mem_cons_self ..))
theorem up_small : ∀ {l : List Nat} {a b : Nat}, l.Pairwise (· < ·) → (∀ x ∈ l, a ≤ x ∧ x < b) → l.length ≤ b - a
  | [], _, _, _, _ => Nat.zero_le _
  | x :: l, a, b, h, k => by
    obtain ⟨h1, h2⟩ := List.pairwise_cons.mp h
    have hx := k x (List.mem_cons_self ..)
    have := up_small (a := x + 1) (b := b) h2 fun y hy => ⟨h1 y hy, (k y (List.mem_cons_of_mem _ hy)).2⟩
    rw [List.length_cons]
    omega
theorem goodV_view {sz : List Nat} {P : List Int} (h8 : sz.length ≤ 8) (h : goodV sz P = true) : ∃ P' : List Nat, P = toI P' ∧ ViewOk sz P' := by
  unfold goodV at h
  rw [Bool.and_eq_true, Bool.and_eq_true] at h
  obtain ⟨h0, h1, h2⟩ := h
  have hin : ∀ p ∈ P, 0 ≤ p ∧ p < (sz.length : Int) := fun p hp => of_decide_eq_true (List.all_eq_true.mp h2 p hp)
  have pw := rise_pw h1
  have e : toI (P.map Int.toNat) = P := by
    unfold toI
    rw [List.map_map]
    refine (List.map_congr_left fun p hp => ?_).trans (List.map_id _)
    exact Int.toNat_of_nonneg (hin p hp).1
  have pw' : (P.map Int.toNat).Pairwise (· < ·) := List.pairwise_map.mpr (pw.imp_of_mem fun {a b} ha hb hab => by
    have := (hin a ha).1
    have := (hin b hb).1
    omega)
  have pin : ∀ p ∈ P.map Int.toNat, p < sz.length := fun p hp => by
    obtain ⟨x, hx, rfl⟩ := List.mem_map.mp hp
    have := hin x hx
    omega
  refine ⟨P.map Int.toNat, e.symm, ?_, pw', pin, ?_⟩
  · intro z
    have : P = [] := List.map_eq_nil_iff.mp z
    rw [this] at h0
    cases h0
  · have := up_small (a := 0) (b := sz.length) pw' fun x hx => ⟨Nat.zero_le _, pin x hx⟩
    omega
theorem view_good {sz P : List Nat} (h : ViewOk sz P) : goodV sz (toI P) = true := by
  obtain ⟨h0, h1, h2, h3⟩ := h
  unfold goodV
  rw [Bool.and_eq_true, Bool.and_eq_true]
  refine ⟨?_, pw_rise (List.pairwise_map.mpr (h1.imp fun {a b} hab => by omega)), List.all_eq_true.mpr fun x hx => ?_⟩
  · cases P with
    | nil => exact absurd rfl h0
    | cons a P => rfl
  · obtain ⟨p, hp, rfl⟩ := List.mem_map.mp hx
    have := h2 p hp
    exact decide_eq_true ⟨by omega, by omega⟩
def spChkView (K : PySem.W.Frag) (CW : Addr × Addr) : Sp := fun vs H Q E => ∃ (f : Int) (F : Fd f) (v : V) (sz : List Nat) (ts : List (Tie F.F)) (r : Addr) (P : List Int), vs = [v, .ref r] ∧ WebT K H F v sz ts ∧ SqL K H r (P.map V.int) ∧ P.length ≤ 100 ∧ (goodV sz P = true → ∀ H', Same H H' → Q .non H') ∧ (goodV sz P = false → Raised K CW "badview" H E)
theorem len_check_view {K CW vs H Q E} (h : spChkView K CW vs H Q E) : vs.length = (["web", "places"] : List Str).length := by
  obtain ⟨f, F, v, sz, ts, r, P, rfl, _⟩ := h
  rfl
theorem d_check_view {P : Program} {w : World} {K : PySem.W.Frag} {mg : Str → Option Value} {base : Heap} {CW : Addr × Addr} {fI fJ : Addr} (R : Raw K mg "check_view" s_check_view) (B : Bn mg) (D_is_place : Def P w K mg base "is_place" 1 ["sizes", "place"] (spIsPlace K)) {C_BadView : Addr} (E_BadView : ErrC K mg CW "BadView" C_BadView fI "badview") {fdI : FuncData} (G_init : IniAt P w K mg base fI fdI) : DefX P w K mg base "check_view" 3 ["web", "places"] (spChkView K CW) := by
  obtain ⟨f, fd, F, m⟩ := R
  obtain ⟨f_is_place, fd_is_place, G_is_place, m_is_place, k_is_place, b_is_place⟩ := D_is_place
  refine ⟨f, fd, F.okX sc_check_view (fun vs H Q E h => ?_) (fun cdv A outer s H vs Q E hr h => ?_), m, F.kp, F.binds (ps := ["web", "places"]) fun _ _ _ _ _ _ us hl => match us, hl with | [_, _], _ => rfl⟩
  · exact len_check_view h

  · obtain ⟨f, F, v, sz, ts, r, P, rfl, hW, hP, p9, q, qx⟩ := h
    refine ⟨_, (pss_cons (ps_set (i := 4) sc_check_view.nd rfl (Or.inl rfl) (pe_callB (cr_all rfl) (by rfl) B.all (by decide +kernel) (pa_cons (pe_lc (own := [("low", 2), ("high", 3)]) (g := gTup K 2 (gCons (gName 2) (gCons (gName 3) gNil))) (tt := tYes) rfl sc_check_view.nd (ZM.pi_zip2 (by rfl) B.zip (pa_cons (pv 1) (pa_cons (pe_slice sl_list (pv 1) (po_some pe_int) po_none) pa_nil))) (blkOk_by (N := ["web", "places", "low", "high", "rising", "place"]) (sc := defScope s_check_view) (by decide +kernel)) (fun _ _ _ _ _ => pg_tup rfl (pgs_cons (pg_name (i := 2) sc_check_view.nd rfl (Or.inl rfl)) (pgs_cons (pg_name (i := 3) sc_check_view.nd rfl (Or.inl rfl)) pgs_nil))) (fun _ _ _ _ _ => pts_nil) (fun _ _ _ _ _ => (pe_cmpR op_lt (pv 2) (pv 3) (nomark _)))) pa_nil))) (pss_one (ps_if (PW.pt (pw_or (pt_not (pt_truth (pv 1) (by intro _; rfl))) (pw_or (pt_not (pt_val (pv 4))) (pw_or1 (pt_not (pt_val (pe_callB (cr_all rfl) (by rfl) B.all (by decide +kernel) (pa_cons (pe_lc (own := [("place", 5)]) (g := gName 5) (tt := tYes) rfl sc_check_view.nd (pi_list (pv 1)) (blkOk_by (N := ["web", "places", "low", "high", "rising", "place"]) (sc := defScope s_check_view) (by decide +kernel)) (fun _ _ _ _ _ => pg_name (i := 5) sc_check_view.nd rfl (Or.inl rfl)) (fun _ _ _ _ _ => pts_nil) (fun _ _ _ _ _ => (pe_call G_is_place (hr.mono (by omega)) (by rfl) m_is_place k_is_place b_is_place .nil pass0 (pa_cons (pe_ix (show IxR _ (rIxT K) from ix_tup) (pv 0) pe_int (fun _ _ => rfl)) (pa_cons (pv 5) pa_nil))))) pa_nil)))))))) (pss_one (ps_raise rfl (takes_of rfl rfl rfl rfl) (pmk_oex E_BadView.oex E_BadView.iC G_init.ty G_init.ok (hr.mono (by omega)) G_init.bd .nil pass0 (by rfl) E_BadView.mgC (pa_cons pe_str pa_nil)))) pss_nil))), ?_⟩
    have lP : (P.map V.int).length = P.length := List.length_map ..
    obtain ⟨pw, pa, pb, us, rfl, hw, ha, hb, hT⟩ := id hW
    refine ⟨_, rfl, _, rfl, _, rfl, r, P.map V.int, rfl, hP, fun r2 hr2 => ?_⟩
    have s1 := same_new (o := .lst (cutV (P.map V.int) (some 1) none)) hr2
    have e2 : SqL K (upd H r2 (.lst (cutV (P.map V.int) (some 1) none))) r2 ((P.map V.int).drop 1) := by
      rw [show (1 : Int) = ((1 : Nat) : Int) from rfl, cutV_from]
      exact SqL.of upd_same
    generalize upd H r2 (.lst (cutV (P.map V.int) (some 1) none)) = H1 at *
    have hP1 := s1.seq hP
    have ld : ((P.map V.int).drop 1).length = P.length - 1 := by rw [List.length_drop, lP]
    have lr := riseL_len (P := P)
    refine ⟨false, false, r, r2, P.map V.int, (P.map V.int).drop 1, rfl, hP1, e2, fun D hD => lc_it (ZM.walk2 (n := P.length - 1) (xs := P.map V.int) (ys := (P.map V.int).drop 1) (by omega)) (fun i H' => Same H1 H' ∧ H' D = some (.lst (((riseL P).take i).map V.bl)))
      ⟨same_new hD, upd_same⟩ (fun i H' _ ⟨s, _⟩ => ⟨s.seq hP1, s.seq e2⟩) ?_ ?_⟩
    · rintro i x H2 H3 hi ⟨s2, hD'⟩ ⟨T, x1, y1, rfl, hT, rfl, ex, ey⟩
      have ex : (P.map V.int)[i]? = some x1 := ex
      rw [List.getElem?_map] at ex
      obtain ⟨a, ea, rfl⟩ := Option.map_eq_some_iff.mp ex
      have ey : ((P.map V.int).drop 1)[i]? = some y1 := ey
      rw [← List.map_drop, List.getElem?_map] at ey
      obtain ⟨b, eb, rfl⟩ := Option.map_eq_some_iff.mp ey
      have sT := same_new (o := .tup [V.int a, .int b]) hT
      have hD2 := sT _ _ hD'
      have er : (riseL P)[i]? = some (decide (a < b)) := by
        unfold riseL
        rw [List.getElem?_zipWith, ea, eb]
      refine ⟨T, _, rfl, SqT.of upd_same, rfl, _, _, rfl, _, _, rfl, rfl, rfl, tYes_of (iteT ⟨_, rfl, _, rfl, _, _, rfl, rfl, _, hD2, by rw [List.length_map, List.length_take]; exact small1000 (by omega), same_seqT_upd (s2.trans sT) hD hD2, ?_⟩)⟩
      rw [upd_same, List.take_add_one, er, List.map_append]
      rfl
    rintro H2 ⟨s2, hD'⟩
    rw [← lr, List.take_length] at hD'
    refine ⟨D, riseL P, rfl, SqL.of hD', ?_⟩
    refine gName_go3 (nx_go3 ?_)
    have s12 := s1.trans s2
    have ee : (P.map V.int).isEmpty = P.isEmpty := by
      cases P <;> rfl
    refine ⟨_, rfl, _, .inl ⟨P.map V.int, s12.seq hP, rfl⟩, ?_⟩
    rw [ee]
    have bad : goodV sz P = false → Raised K CW "badview" H2 E := fun z => (qx z).same s12
    cases h0 : P.isEmpty with
    | true => exact iteT ⟨by show 1 ≤ 1000; decide, raise_read E_BadView (bad (by unfold goodV; rw [h0]; rfl))⟩
    | false =>
      refine iteF ⟨_, rfl, _, rfl, ?_⟩
      cases h1 : (riseL P).all id with
      | false => exact iteT ⟨by show 1 ≤ 1000; decide, raise_read E_BadView (bad (by unfold goodV; rw [h0, h1]; rfl))⟩
      | true =>
        refine iteF ?_
        have ha2 := Same.seqT s12 ha
        have hP2 := s12.seq hP
        have li : (intsV sz).length = sz.length := List.length_map ..
        refine ⟨_, rfl, r, rfl, ⟨_, hP2⟩, fun D2 hD2 => lc_list (K := K) (a := r) (xs := P.map V.int) (fun i H' => Same H2 H' ∧ H' D2 = some (.lst (((P.take i).map (insB sz.length)).map V.bl))) ⟨same_new hD2, upd_same⟩ (fun i H' _ ⟨s, _⟩ => s.seq hP2) ?_ ?_⟩
        · rintro i x H3 hi ⟨s3, hD3⟩
          rw [List.getElem?_map] at hi
          obtain ⟨p, hp, rfl⟩ := Option.map_eq_some_iff.mp hi
          have hil := (List.getElem?_eq_some_iff.mp hp).1
          have fin : ∀ b, b = insB sz.length p → ∃ acc, H3 D2 = some (.lst acc) ∧ acc.length < sizeLine ∧ Same H2 (upd H3 D2 (.lst (acc ++ [V.bl b]))) ∧ upd H3 D2 (.lst (acc ++ [V.bl b])) D2 = some (.lst (((P.take (i + 1)).map (insB sz.length)).map V.bl)) := fun b hb => by
            refine ⟨_, hD3, by rw [List.length_map, List.length_map, List.length_take]; exact small1000 (by omega), same_seqT_upd s3 hD2 hD3, ?_⟩
            rw [upd_same, List.take_add_one, hp, List.map_append, List.map_append, hb]
            rfl
          refine ⟨rfl, tYes_of (iteT ⟨_, rfl, pw, _, _, _, rfl, rfl, Same.seqT (s12.trans s3) hw, rfl, _, rfl, pa, intsV sz, p, rfl, Same.seqT s3 ha2, fun z => ?_, fun z => ?_⟩)⟩
          · exact fin true (by unfold insB; rw [decide_eq_true (by rw [li] at z; exact z)])
          · exact fin false (by unfold insB; rw [decide_eq_false (by rw [li] at z; exact z)])
        · rintro H3 ⟨s3, hD3⟩
          rw [lP, List.take_length] at hD3
          refine ⟨D2, P.map (insB sz.length), rfl, SqL.of hD3, ?_⟩
          have e : (P.map (insB sz.length)).all id = P.all (insB sz.length) := by
            rw [List.all_map]
            rfl
          rw [e]
          cases h2 : P.all (insB sz.length) with
          | true => exact ⟨_, rfl, iteF (q (by unfold goodV; rw [h0, h1, h2]; rfl) _ (s12.trans s3))⟩
          | false => exact ⟨_, rfl, iteT ⟨by show 1 ≤ 1000; decide, raise_read E_BadView ((bad (by unfold goodV; rw [h0, h1, h2]; rfl)).same s3)⟩⟩
theorem flat_intsV (P : List Nat) : (intsV P).all flatV = true := List.all_eq_true.mpr fun x hx => by
  obtain ⟨n, _, rfl⟩ := List.mem_map.mp hx
  rfl
theorem inV_intsV (a : Nat) : ∀ P : List Nat, inV (.int (a : Nat)) (intsV P) = decide (a ∈ P)
  | [] => rfl
  | p :: P => by
    show (eqV (V.int (p : Nat)) (V.int (a : Nat)) || inV (V.int (a : Nat)) (intsV P)) = _
    rw [inV_intsV a P, show eqV (V.int (p : Nat)) (V.int (a : Nat)) = decide ((p : Int) = (a : Int)) from rfl]
    by_cases c : a = p
    · subst c
      rw [decide_eq_true rfl, decide_eq_true (List.mem_cons_self ..)]
      rfl
    · rw [decide_eq_false (show ¬ (p : Int) = (a : Int) by omega), Bool.false_or]
      by_cases d : a ∈ P
      · rw [decide_eq_true d, decide_eq_true (List.mem_cons_of_mem _ d)]
      · rw [decide_eq_false d, decide_eq_false fun z => (List.mem_cons.mp z).elim c d]
theorem idx_first {a : Nat} : ∀ {P : List Nat} {m : Nat}, m < P.idxOf a → P[m]? ≠ some a
  | [], m, _ => by simp
  | p :: P, m, h => by
    rw [List.idxOf_cons] at h
    by_cases c : p = a
    · rw [show (p == a) = true from beq_iff_eq.mpr c] at h
      exact absurd h (Nat.not_lt_zero _)
    · rw [show (p == a) = false from beq_eq_false_iff_ne.mpr c] at h
      have h : m < P.idxOf a + 1 := h
      cases m with
      | zero =>
        intro z
        exact c (Option.some.inj z)
      | succ m =>
        rw [List.getElem?_cons_succ]
        exact idx_first (by omega)
theorem idx_get {P : List Nat} {a : Nat} (ha : a ∈ P) : (intsV P)[P.idxOf a]? = some (V.int (a : Nat)) := by
  have hl := List.idxOf_lt_length_iff.mpr ha
  unfold intsV
  rw [List.getElem?_map, List.getElem?_eq_getElem hl, List.getElem_idxOf hl]
  rfl
theorem idx_eq (a : Nat) : eqV (V.int (a : Nat)) (V.int (a : Nat)) = true := decide_eq_true rfl
theorem idx_no {P : List Nat} {a : Nat} (ha : a ∈ P) (m : Nat) (z' : V) (hm : m < P.idxOf a) (hz : (intsV P)[m]? = some z') : eqV z' (V.int (a : Nat)) = false := by
  have hl := List.idxOf_lt_length_iff.mpr ha
  unfold intsV at hz
  rw [List.getElem?_map, List.getElem?_eq_getElem (show m < P.length by omega)] at hz
  have hz := Option.some.inj hz
  subst hz
  have := idx_first hm
  rw [List.getElem?_eq_getElem (show m < P.length by omega)] at this
  show decide _ = false
  refine decide_eq_false fun e => this ?_
  have e2 : P[m] = a := by omega
  rw [e2]
def viewS (sz P : List Nat) : List Nat := P.map fun p => sz.getD p 0
def viewT {α : Type} (P : List Nat) (ts : List (Tie α)) : List (Tie α) := (ts.filter fun t => decide (t.one ∈ P) && decide (t.other ∈ P)).map fun t => ⟨P.idxOf t.one, P.idxOf t.other, t.room, t.fst, t.snd⟩
def spViewAt (K : PySem.W.Frag) : Sp := fun vs H Q _ => ∃ (f : Int) (F : Fd f) (v : V) (sz : List Nat) (ts : List (Tie F.F)) (r : Addr) (P : List Nat), vs = [v, .ref r] ∧ WebT K H F v sz ts ∧ ts.length ≤ 12 ∧ SqL K H r (intsV P) ∧ ViewOk sz P ∧ ∀ H' v', Same H H' → WebT K H' F v' (viewS sz P) (viewT P ts) → Q v' H'
theorem len_view_at {K vs H Q E} (h : spViewAt K vs H Q E) : vs.length = (["web", "places"] : List Str).length := by
  obtain ⟨f, F, v, sz, ts, r, P, rfl, _⟩ := h
  rfl
theorem d_view_at {P : Program} {w : World} {K : PySem.W.Frag} {mg : Str → Option Value} {base : Heap} (R : Raw K mg "view_at" s_view_at) (B : Bn mg)  : Def P w K mg base "view_at" 1 ["web", "places"] (spViewAt K) := by
  obtain ⟨f, fd, F, m⟩ := R
  refine ⟨f, fd, F.ok sc_view_at (fun vs H Q E h => ?_) (fun cdv A outer s H vs Q E hr h => ?_), m, F.kp, F.binds (ps := ["web", "places"]) fun _ _ _ _ _ _ us hl => match us, hl with | [_, _], _ => rfl⟩
  · exact len_view_at h

  · obtain ⟨f, F, v, sz, ts, r, P, rfl, hW, t12, hP, ⟨p0, prise, pin, p8⟩, q⟩ := h
    refine ⟨_, (pss_cons (ps_asg (pv 0) (pg_tup (by rfl) (pgs_cons (pg_name (i := 2) sc_view_at.nd rfl (Or.inl rfl)) (pgs_cons (pg_name (i := 3) sc_view_at.nd rfl (Or.inr rfl)) (pgs_cons (pg_name (i := 4) sc_view_at.nd rfl (Or.inl rfl)) pgs_nil))))) (pss_cons (ps_setLc (i := 10) (own := [("one", 5), ("other", 6), ("room", 7), ("first", 8), ("second", 9)]) (g := gTup K 5 (gCons (gName 5) (gCons (gName 6) (gCons (gName 7) (gCons (gName 8) (gCons (gName 9) gNil)))))) (tt := tAnd (tTest (tOp (rIn K false) (tVar 5) (tVar 1))) (tTest (tOp (rIn K false) (tVar 6) (tVar 1)))) (te := tTup (tCons (tBM K "list" (rIndex K) (tVar 1) (tCons (tVar 5) tNil)) (tCons (tBM K "list" (rIndex K) (tVar 1) (tCons (tVar 6) tNil)) (tCons (tVar 7) (tCons (tVar 8) (tCons (tVar 9) tNil)))))) rfl sc_view_at.nd rfl rfl (sw_true rfl rfl rfl (by decide +kernel)) (pi_tup (pv 4)) (blkOk_by (N := ["web", "places", "field", "sizes", "ties", "one", "other", "room", "first", "second", "inner", "place"]) (sc := defScope s_view_at) (by decide +kernel)) (fun _ _ _ _ _ => pg_tup rfl (pgs_cons (pg_name (i := 5) sc_view_at.nd rfl (Or.inl rfl)) (pgs_cons (pg_name (i := 6) sc_view_at.nd rfl (Or.inl rfl)) (pgs_cons (pg_name (i := 7) sc_view_at.nd rfl (Or.inl rfl)) (pgs_cons (pg_name (i := 8) sc_view_at.nd rfl (Or.inl rfl)) (pgs_cons (pg_name (i := 9) sc_view_at.nd rfl (Or.inl rfl)) pgs_nil)))))) (fun _ _ _ _ _ => pts_one (by exact (PW.pt (L2.pw_and (pt_cmpR (show OpR _ _ (rIn K false) from op_in_seq) (pv 5) (pv 1) (by rfl)) (pw_and1 (pt_cmpR (show OpR _ _ (rIn K false) from op_in_seq) (pv 6) (pv 1) (by rfl))))))) (fun _ _ _ _ _ => (pe_tup (pa_cons (by exact pe_bm PySem.F.plainAttrs_list PySem.F.slot_list_index PySem.F.type_list_index mt_index (pv 1) (pa_cons (pv 5) pa_nil)) (pa_cons (by exact pe_bm PySem.F.plainAttrs_list PySem.F.slot_list_index PySem.F.type_list_index mt_index (pv 1) (pa_cons (pv 6) pa_nil)) (pa_cons (pv 7) (pa_cons (pv 8) (pa_cons (pv 9) pa_nil)))))))) (pss_one (ps_ret (pe_tup (pa_cons (pv 2) (pa_cons (pe_callTy call_tuple_of (by rfl) B.tuple (by decide +kernel) (pa_cons (pe_lc (own := [("place", 11)]) (g := gName 11) (tt := tYes) rfl sc_view_at.nd (pi_list (pv 1)) (blkOk_by (N := ["web", "places", "field", "sizes", "ties", "one", "other", "room", "first", "second", "inner", "place"]) (sc := defScope s_view_at) (by decide +kernel)) (fun _ _ _ _ _ => pg_name (i := 11) sc_view_at.nd rfl (Or.inl rfl)) (fun _ _ _ _ _ => pts_nil) (fun _ _ _ _ _ => (pe_ix (show IxR _ (rIxT K) from ix_tup) (pv 3) (pv 11) (fun _ _ => rfl)))) pa_nil)) (pa_cons (pe_callTy call_tuple_of (by rfl) B.tuple (by decide +kernel) (pa_cons (pv 10) pa_nil)) pa_nil)))))))), ?_⟩
    have lP : (intsV P).length = P.length := List.length_map ..
    obtain ⟨pw, pa, pb, us, rfl, hw, ha, hb, hT⟩ := id hW
    have lus := hT.len
    refine ⟨_, rfl, pw, _, rfl, hw, rfl, _, _, rfl, _, _, rfl, _, _, rfl, rfl, ?_⟩
    refine ⟨_, rfl, pb, rfl, ⟨_, hb⟩, fun D hD => lc_tup (K := K) (a := pb) (xs := us) (fun i H' => Same H H' ∧ ∃ zs, H' D = some (.lst zs) ∧ TiesT K H' F zs (viewT P (ts.take i))) ⟨same_new hD, [], upd_same, .nil⟩ (fun i H' _ ⟨s, _⟩ => Same.seqT s hb) ?_ ?_⟩
    · rintro i x H2 hi ⟨s2, zs, hz, hzs⟩
      have hil := (List.getElem?_eq_some_iff.mp hi).1
      obtain ⟨t, et, ht⟩ := hT.pickV hi
      obtain ⟨pt, u, v, rfl, hpt, hu, hv⟩ := ht.tk (Tk.same s2)
      have hP2 := s2.seq hP
      have lzs := hzs.len
      have lv : (viewT P (ts.take i)).length ≤ 12 := by
        unfold viewT
        rw [List.length_map]
        refine Nat.le_trans (List.length_filter_le ..) ?_
        rw [List.length_take]
        omega
      generalize hσ : wipe _ _ = σ0
      have eσ : σ0 = [some (.ref pw), some (.ref r), some (.int f), some (.ref pa), some (.ref pb), none, none, none, none, none, none, none] := by
        rw [← hσ]
        rfl
      subst eσ
      clear hσ
      have ev : viewT P (ts.take (i + 1)) = if t.one ∈ P ∧ t.other ∈ P then viewT P (ts.take i) ++ [⟨P.idxOf t.one, P.idxOf t.other, t.room, t.fst, t.snd⟩] else viewT P (ts.take i) := by
        unfold viewT
        rw [List.take_add_one, et, List.filter_append]
        by_cases c : t.one ∈ P ∧ t.other ∈ P
        · have e1 : ((some t).toList.filter fun t => decide (t.one ∈ P) && decide (t.other ∈ P)) = [t] := List.filter_eq_self.mpr fun s hs => by
            rw [List.mem_singleton.mp hs, decide_eq_true c.1, decide_eq_true c.2]
            rfl
          rw [if_pos c, e1, List.map_append]
          rfl
        · have e1 : ((some t).toList.filter fun t => decide (t.one ∈ P) && decide (t.other ∈ P)) = [] := List.filter_eq_nil_iff.mpr fun s hs => by
            rw [List.mem_singleton.mp hs, Bool.and_eq_true, decide_eq_true_iff, decide_eq_true_iff]
            exact c
          rw [if_neg c, e1, List.append_nil]
      refine ⟨pt, _, rfl, hpt, rfl, _, _, rfl, _, _, rfl, _, _, rfl, _, _, rfl, _, _, rfl, rfl, (by (repeat rw [wipe_set (by decide)]); rfl), ?_⟩
      refine ⟨_, rfl, _, rfl, r, intsV P, rfl, .inl hP2, rfl, flat_intsV P, _, rfl, ite2 (fun e1 => ?_) (fun e1 => ?_)⟩
      · have e1 : inV (.int (t.one : Nat)) (intsV P) = true := e1
        rw [inV_intsV] at e1
        have m1 := of_decide_eq_true e1
        refine ⟨_, rfl, _, rfl, r, intsV P, rfl, .inl hP2, rfl, flat_intsV P, _, rfl, ite2 (fun e2 => ?_) (fun e2 => ?_)⟩
        · have e2 : inV (.int (t.other : Nat)) (intsV P) = true := e2
          rw [inV_intsV] at e2
          have m2 := of_decide_eq_true e2
          refine ⟨_, rfl, .inl ⟨rfl, _, hP2⟩, _, rfl, r, intsV P, .int (t.one : Nat), P.idxOf t.one, .int (t.one : Nat), rfl, rfl, hP2, rfl, flat_intsV P, idx_get m1, idx_eq _, idx_no m1, ?_⟩
          refine ⟨_, rfl, .inl ⟨rfl, _, hP2⟩, _, rfl, r, intsV P, .int (t.other : Nat), P.idxOf t.other, .int (t.other : Nat), rfl, rfl, hP2, rfl, flat_intsV P, idx_get m2, idx_eq _, idx_no m2, ?_⟩
          refine ⟨_, rfl, _, rfl, _, rfl, (by show 5 ≤ sizeLine; decide), fun pn hpn => ?_⟩
          have sn := same_new (o := .tup [.int (P.idxOf t.one : Nat), .int (P.idxOf t.other : Nat), .int (t.room : Nat), u, v]) hpn
          have hzn := sn _ _ hz
          refine ⟨zs, hzn, small1000 (by omega), same_seqT_upd (s2.trans sn) hD hzn, zs ++ [.ref pn], upd_same, ?_⟩
          rw [ev, if_pos ⟨m1, m2⟩]
          have tp := Tk.put (K := K) (o := .lst (zs ++ [.ref pn])) hzn
          exact TiesT.snoc (t := ⟨P.idxOf t.one, P.idxOf t.other, t.room, t.fst, t.snd⟩) ⟨pn, u, v, rfl, tp _ _ (SqT.of upd_same), (hu.tk (Tk.same sn)).tk tp, (hv.tk (Tk.same sn)).tk tp⟩ ((hzs.tk (Tk.same sn)).tk tp)
        · have e2 : ¬ inV (.int (t.other : Nat)) (intsV P) = true := e2
          rw [inV_intsV] at e2
          refine ⟨s2, zs, hz, ?_⟩
          rw [ev, if_neg fun z => e2 (decide_eq_true z.2)]
          exact hzs
      · have e1 : ¬ inV (.int (t.one : Nat)) (intsV P) = true := e1
        rw [inV_intsV] at e1
        refine ⟨s2, zs, hz, ?_⟩
        rw [ev, if_neg fun z => e1 (decide_eq_true z.1)]
        exact hzs
    rintro H2 ⟨s2, zs, hz, hzs⟩
    rw [lus, List.take_length] at hzs
    have hP2 := s2.seq hP
    have ha2 := Same.seqT s2 ha
    refine gName_go3 (nx_go3 ⟨_, rfl, _, rfl, r, rfl, ⟨_, hP2⟩, fun D2 hD2 => lc_list (K := K) (a := r) (xs := intsV P) (fun i H' => Same H2 H' ∧ H' D2 = some (.lst (intsV ((viewS sz P).take i)))) ⟨same_new hD2, upd_same⟩ (fun i H' _ ⟨s, _⟩ => s.seq hP2) ?_ ?_⟩)
    · rintro i x H3 hi ⟨s3, hD3⟩
      have hil := (List.getElem?_eq_some_iff.mp hi).1
      unfold intsV at hi
      rw [List.getElem?_map] at hi
      obtain ⟨p, hp, rfl⟩ := Option.map_eq_some_iff.mp hi
      have hps := pin p (List.mem_of_getElem? hp)
      refine ⟨rfl, tYes_of (iteT ⟨_, rfl, _, rfl, pa, intsV sz, _, _, rfl, rfl, Same.seqT s3 ha2, ints_at hps, _, hD3, by unfold intsV viewS; rw [List.length_map, List.length_take, List.length_map]; exact small1000 (by omega), same_seqT_upd s3 hD2 hD3, ?_⟩)⟩
      have e : (viewS sz P)[i]? = some (sz.getD p 0) := by
        unfold viewS
        rw [List.getElem?_map, hp]
        rfl
      rw [upd_same, List.take_add_one, e]
      unfold intsV
      rw [List.map_append]
      rfl
    rintro H3 ⟨s3, hD3⟩
    have lS : (intsV P).length = (viewS sz P).length := by
      unfold intsV viewS
      rw [List.length_map, List.length_map]
    rw [lS, List.take_length] at hD3
    refine ⟨D2, _, rfl, .inl ⟨SqL.of hD3, fun p1 hp1 => ?_⟩⟩
    have t1 := same_new (o := .tup (intsV (viewS sz P))) hp1
    have e1 : SqT K (upd H3 p1 (.tup (intsV (viewS sz P)))) p1 (intsV (viewS sz P)) := SqT.of upd_same
    refine ⟨_, rfl, D, zs, rfl, .inl ⟨SqL.of (t1 _ _ (s3 _ _ hz)), fun p2 hp2 => ?_⟩⟩
    have t2 := same_new (o := .tup zs) hp2
    refine ⟨(by show 3 ≤ sizeLine; decide), fun p3 hp3 => ?_⟩
    have t3 := same_new (o := .tup [.int f, .ref p1, .ref p2]) hp3
    have tA := (s3.trans t1).trans (t2.trans t3)
    exact q _ _ (s2.trans tA) ⟨p3, p1, p2, zs, rfl, SqT.of upd_same, Same.seqT (t2.trans t3) e1, Same.seqT t3 (SqT.of upd_same), hzs.tk (Tk.same tA)⟩
theorem view_web {f : Int} {F : Fd f} {sz P : List Nat} {ts : List (Tie F.F)} (ok : WebOk F sz ts) (h : ViewOk sz P) : WebOk F (viewS sz P) (viewT P ts) := by
  obtain ⟨p0, prise, pin, p8⟩ := h
  have lv : (viewS sz P).length = P.length := List.length_map ..
  have at_ : ∀ {a : Nat}, a ∈ P → (viewS sz P).getD (P.idxOf a) 0 = sz.getD a 0 := fun {a} ha => by
    have hl := List.idxOf_lt_length_iff.mpr ha
    unfold viewS
    rw [List.getD_eq_getElem?_getD, List.getElem?_map, List.getElem?_eq_getElem hl, List.getElem_idxOf hl]
    rfl
  refine ⟨by rw [lv]; exact List.length_pos_iff.mpr p0, by rw [lv]; exact p8, fun n hn => ?_, ?_, fun t ht => ?_⟩
  · obtain ⟨p, hp, rfl⟩ := List.mem_map.mp hn
    exact getD_le ok.sz3
  · unfold viewT
    rw [List.length_map]
    exact Nat.le_trans (List.length_filter_le ..) ok.len12
  · obtain ⟨u, hu, rfl⟩ := List.mem_map.mp ht
    obtain ⟨hu, hc⟩ := List.mem_filter.mp hu
    rw [Bool.and_eq_true, decide_eq_true_iff, decide_eq_true_iff] at hc
    have okt := ok.ties u hu
    refine ⟨by rw [lv]; exact List.idxOf_lt_length_iff.mpr hc.1, by rw [lv]; exact List.idxOf_lt_length_iff.mpr hc.2, okt.room, ?_, ?_⟩
    · show TabOk F u.fst u.room ((viewS sz P).getD (P.idxOf u.one) 0)
      rw [at_ hc.1]
      exact okt.fst
    · show TabOk F u.snd u.room ((viewS sz P).getD (P.idxOf u.other) 0)
      rw [at_ hc.2]
      exact okt.snd

open Lin
def spChkWhX (K : PySem.W.Frag) (CW : Addr × Addr) : Sp := fun vs H Q E => ∃ (f : Int) (F : Fd f) (v : V) (sz : List Nat) (ts : List (Tie F.F)) (c : Addr) (xs : List V) (QS : List (List Pr)), vs = [v, .ref c] ∧ WebT K H F v sz ts ∧ sz.length ≤ 100 ∧ SqL K H c xs ∧ ColsQ K H xs QS ∧ (∀ qs ∈ QS, qs.length ≤ 900) ∧
  (okCols f sz QS = true → ∀ H', Same H H' → Q .non H') ∧ (okCols f sz QS = false → Raised K CW "badwhole" H E)
theorem len_check_whole {K CW vs H Q E} (h : spChkWhX K CW vs H Q E) : vs.length = (["web", "whole"] : List Str).length := by
  obtain ⟨f, F, v, sz, ts, c, xs, QS, rfl, _⟩ := h
  rfl
theorem d_check_whole {P : Program} {w : World} {K : PySem.W.Frag} {mg : Str → Option Value} {base : Heap} {CW : Addr × Addr} {fI fJ : Addr} (R : Raw K mg "check_whole" s_check_whole) (B : Bn mg) (D_are_columns : Def P w K mg base "are_columns" 3 ["field", "rooms", "columns"] (spAreColsG K)) {C_BadWhole : Addr} (E_BadWhole : ErrC K mg CW "BadWhole" C_BadWhole fI "badwhole") {fdI : FuncData} (G_init : IniAt P w K mg base fI fdI) : DefX P w K mg base "check_whole" 4 ["web", "whole"] (spChkWhX K CW) := by
  obtain ⟨f, fd, F, m⟩ := R
  obtain ⟨f_are_columns, fd_are_columns, G_are_columns, m_are_columns, k_are_columns, b_are_columns⟩ := D_are_columns
  refine ⟨f, fd, F.okX sc_check_whole (fun vs H Q E h => ?_) (fun cdv A outer s H vs Q E hr h => ?_), m, F.kp, F.binds (ps := ["web", "whole"]) fun _ _ _ _ _ _ us hl => match us, hl with | [_, _], _ => rfl⟩
  · exact len_check_whole h

  · obtain ⟨f, F, v, sz, ts, c, xs, QS, rfl, hW, l9, hc, hQ, lw, q, qx⟩ := h
    refine ⟨_, (pss_one (ps_if (pt_not (pt_val (pe_call G_are_columns (hr.mono (by omega)) (by rfl) m_are_columns k_are_columns b_are_columns .nil pass0 (pa_cons (pe_ix ix_tup (pv 0) pe_int (fun _ _ => rfl)) (pa_cons (pe_ix ix_tup (pv 0) pe_int (fun _ _ => rfl)) (pa_cons (pv 1) pa_nil)))))) (pss_one (ps_raise rfl (takes_of rfl rfl rfl rfl) (pmk_oex E_BadWhole.oex E_BadWhole.iC G_init.ty G_init.ok (hr.mono (by omega)) G_init.bd .nil pass0 (by rfl) E_BadWhole.mgC (pa_cons pe_str pa_nil)))) pss_nil)), ?_⟩
    obtain ⟨pw, pa, pb, us, rfl, hw, ha, hb, hT⟩ := id hW
    refine ⟨_, rfl, pw, _, _, _, rfl, rfl, hw, rfl, _, rfl, pw, _, _, _, rfl, rfl, hw, rfl, _, rfl, f, true, false, pa, c, sz, xs, QS, rfl, ha, hc, hQ, by omega, lw, fun H1 s1 => ⟨_, rfl, ?_⟩⟩
    cases hg : okCols f sz QS with
    | true => exact iteF (q hg _ s1)
    | false => exact iteT ⟨by show 1 ≤ 1000; decide, raise_read E_BadWhole ((qx hg).same s1)⟩
/-! ### covers -/
def covB {α : Type} (n : Nat) (ts : List (Tie α)) (A B : List Nat) : Bool := ((List.range n).all fun p => decide (p ∈ A) || decide (p ∈ B)) && (ts.all fun t => (decide (t.one ∈ A) && decide (t.other ∈ A)) || (decide (t.one ∈ B) && decide (t.other ∈ B)))
def spCovered (K : PySem.W.Frag) : Sp := fun vs H Q _ => ∃ (f : Int) (F : Fd f) (v : V) (sz : List Nat) (ts : List (Tie F.F)) (a b : Addr) (LA LB : List Nat), vs = [v, .ref a, .ref b] ∧ WebT K H F v sz ts ∧ sz.length ≤ 100 ∧ ts.length ≤ 100 ∧ SqL K H a (intsV LA) ∧ SqL K H b (intsV LB) ∧ ∀ H', Same H H' → Q (.bl (covB sz.length ts LA LB)) H'
theorem len_covered {K vs H Q E} (h : spCovered K vs H Q E) : vs.length = (["web", "one", "other"] : List Str).length := by
  obtain ⟨f, F, v, sz, ts, a, b, LA, LB, rfl, _⟩ := h
  rfl
/-- x in a list, as a value -/
theorem in_list {K : PySem.W.Frag} {H : Hp} {a : Addr} {A : List Nat} {n : Nat} {Q : VK} (h : SqL K H a (intsV A)) (q : Q (.bl (decide (n ∈ A))) H) : rIn K false (.int (n : Nat)) (.ref a) H Q := by
  refine ⟨a, intsV A, rfl, .inl h, rfl, flat_intsV A, ?_⟩
  show Q (.bl (inV (.int (n : Nat)) (intsV A))) H
  rw [inV_intsV]
  exact q
/-- a test's value -/
def GivesB (te : TE) (σ : L2.St) (H : Hp) (b : Bool) : Prop := ∀ Q : VK, Q (.bl b) H → te σ H Q
theorem gB_and {ta tb : TE} {σ : L2.St} {H : Hp} {x y : Bool} (ha : GivesB ta σ H x) (hb : GivesB tb σ H y) : GivesB (tAndV ta tb) σ H (x && y) := fun Q q => ha _ ⟨x, rfl, by
  cases x with
  | false => exact q
  | true => exact hb Q q⟩
theorem gB_or {ta tb : TE} {σ : L2.St} {H : Hp} {x y : Bool} (ha : GivesB ta σ H x) (hb : GivesB tb σ H y) : GivesB (tOrV ta tb) σ H (x || y) := fun Q q => ha _ ⟨x, rfl, by
  cases x with
  | false => exact hb Q q
  | true => exact q⟩
theorem d_covered {P : Program} {w : World} {K : PySem.W.Frag} {mg : Str → Option Value} {base : Heap} (R : Raw K mg "covered" s_covered) (B : Bn mg)  : Def P w K mg base "covered" 1 ["web", "one", "other"] (spCovered K) := by
  obtain ⟨f, fd, F, m⟩ := R
  refine ⟨f, fd, F.ok sc_covered (fun vs H Q E h => ?_) (fun cdv A outer s H vs Q E hr h => ?_), m, F.kp, F.binds (ps := ["web", "one", "other"]) fun _ _ _ _ _ _ us hl => match us, hl with | [_, _, _], _ => rfl⟩
  · exact len_covered h

  · obtain ⟨f, F, v, sz, ts, a, b, LA, LB, rfl, hW, l1, l2, hA, hB, q⟩ := h
    refine ⟨_, (pss_cons (ps_asg (pv 0) (pg_tup (by rfl) (pgs_cons (pg_name (i := 3) sc_covered.nd rfl (Or.inl rfl)) (pgs_cons (pg_name (i := 4) sc_covered.nd rfl (Or.inl rfl)) (pgs_cons (pg_name (i := 5) sc_covered.nd rfl (Or.inl rfl)) pgs_nil))))) (pss_cons (ps_if (pt_not (pt_val (pe_callB (cr_all rfl) (by rfl) B.all (by decide +kernel) (pa_cons (pe_lc (own := [("place", 6)]) (g := gName 6) (tt := tYes) rfl sc_covered.nd (pi_range1 (by rfl) B.range (pa_cons (pe_callB call_len_seq (by rfl) B.len PySem.boot_len (pa_cons (pv 4) pa_nil)) pa_nil)) (blkOk_by (N := ["web", "one", "other", "field", "sizes", "ties", "place", "tie"]) (sc := defScope s_covered) (by decide +kernel)) (fun _ _ _ _ _ => pg_name (i := 6) sc_covered.nd rfl (Or.inl rfl)) (fun _ _ _ _ _ => pts_nil) (fun _ _ _ _ _ => (pe_or (pe_cmpR (show OpR _ _ (rIn K false) from op_in_seq) (pv 6) (pv 1) (by rfl)) (pe_one (pe_cmpR (show OpR _ _ (rIn K false) from op_in_seq) (pv 6) (pv 2) (by rfl)))))) pa_nil)))) (pss_one (ps_ret pe_bl)) pss_nil) (pss_one (ps_ret (pe_callB (cr_all rfl) (by rfl) B.all (by decide +kernel) (pa_cons (pe_lc (own := [("tie", 7)]) (g := gName 7) (tt := tYes) rfl sc_covered.nd (pi_tup (pv 5)) (blkOk_by (N := ["web", "one", "other", "field", "sizes", "ties", "place", "tie"]) (sc := defScope s_covered) (by decide +kernel)) (fun _ _ _ _ _ => pg_name (i := 7) sc_covered.nd rfl (Or.inl rfl)) (fun _ _ _ _ _ => pts_nil) (fun _ _ _ _ _ => (pe_or (pe_and (pe_cmpR (show OpR _ _ (rIn K false) from op_in_seq) (pe_ix (show IxR _ (rIxT K) from ix_tup) (pv 7) pe_int (fun _ _ => rfl)) (pv 1) (by rfl)) (pe_one (pe_cmpR (show OpR _ _ (rIn K false) from op_in_seq) (pe_ix (show IxR _ (rIxT K) from ix_tup) (pv 7) pe_int (fun _ _ => rfl)) (pv 1) (by rfl)))) (pe_one (pe_and (pe_cmpR (show OpR _ _ (rIn K false) from op_in_seq) (pe_ix (show IxR _ (rIxT K) from ix_tup) (pv 7) pe_int (fun _ _ => rfl)) (pv 2) (by rfl)) (pe_one (pe_cmpR (show OpR _ _ (rIn K false) from op_in_seq) (pe_ix (show IxR _ (rIxT K) from ix_tup) (pv 7) pe_int (fun _ _ => rfl)) (pv 2) (by rfl)))))))) pa_nil)))))), ?_⟩
    obtain ⟨pw, pa, pb, us, rfl, hw, ha, hb, hT⟩ := id hW
    have li : (intsV sz).length = sz.length := List.length_map ..
    have lus := hT.len
    refine ⟨_, rfl, pw, _, rfl, hw, rfl, _, _, rfl, _, _, rfl, _, _, rfl, rfl, ?_⟩
    refine ⟨_, rfl, pa, _, rfl, .inr ha, _, rfl, by omega, by omega, fun D hD => ?_⟩
    refine lc_range (lo := 0) (n := (((intsV sz).length : Nat) : Int).toNat) (fun i H' => Same H H' ∧ H' D = some (.lst (((List.range i).map fun p => decide (p ∈ LA) || decide (p ∈ LB)).map V.bl))) ⟨same_new hD, upd_same⟩ ?_ ?_
    · rintro i H2 hi ⟨s2, hD2⟩
      have e0 : (0 : Int) + (i : Int) = ((i : Nat) : Int) := Int.zero_add _
      rw [e0]
      have fin : ∀ c, c = (decide (i ∈ LA) || decide (i ∈ LB)) → ∃ acc, H2 D = some (.lst acc) ∧ acc.length < sizeLine ∧ Same H (upd H2 D (.lst (acc ++ [V.bl c]))) ∧ upd H2 D (.lst (acc ++ [V.bl c])) D = some (.lst (((List.range (i + 1)).map fun p => decide (p ∈ LA) || decide (p ∈ LB)).map V.bl)) := fun c hc => by
        refine ⟨_, hD2, by rw [List.length_map, List.length_map, List.length_range]; exact small1000 (by omega), same_seqT_upd s2 hD hD2, ?_⟩
        rw [upd_same, List.range_succ, List.map_append, List.map_append, hc]
        rfl
      refine ⟨rfl, tYes_of (iteT ⟨_, rfl, _, rfl, in_list (s2.seq hA) ⟨_, rfl, ?_⟩⟩)⟩
      by_cases c : i ∈ LA
      · rw [decide_eq_true c] at fin ⊢
        exact iteT (fin true rfl)
      · rw [decide_eq_false c] at fin ⊢
        exact iteF ⟨_, rfl, _, rfl, in_list (s2.seq hB) (fin _ rfl)⟩
    rintro H2 ⟨s2, hD2⟩
    have hA2 := s2.seq hA
    have hB2 := s2.seq hB
    have hb2 := Same.seqT s2 hb
    have hT2 := hT.tk (Tk.same (K := K) s2)
    refine ⟨D, (List.range ((((intsV sz).length : Nat) : Int).toNat)).map fun p => decide (p ∈ LA) || decide (p ∈ LB), rfl, SqL.of hD2, ?_⟩
    have e : ((List.range ((((intsV sz).length : Nat) : Int).toNat)).map fun p => decide (p ∈ LA) || decide (p ∈ LB)).all id = (List.range sz.length).all fun p => decide (p ∈ LA) || decide (p ∈ LB) := by
      rw [List.all_map, Int.toNat_natCast, li]
      rfl
    rw [e]
    unfold covB at q
    cases h1 : (List.range sz.length).all fun p => decide (p ∈ LA) || decide (p ∈ LB) with
    | false =>
      rw [h1] at q
      exact ⟨_, rfl, iteT (q _ s2)⟩
    | true =>
      rw [h1, Bool.true_and] at q
      refine ⟨_, rfl, iteF (nx_go3 ?_)⟩
      refine ⟨_, rfl, pb, rfl, ⟨_, hb2⟩, fun D2 hD2' => lc_tup (K := K) (a := pb) (xs := us) (fun i H' => Same H2 H' ∧ H' D2 = some (.lst (((ts.take i).map fun t => (decide (t.one ∈ LA) && decide (t.other ∈ LA)) || (decide (t.one ∈ LB) && decide (t.other ∈ LB))).map V.bl))) ⟨same_new hD2', upd_same⟩ (fun i H' _ ⟨s, _⟩ => Same.seqT s hb2) ?_ ?_⟩
      · rintro i x H3 hi ⟨s3, hD3⟩
        have hil := (List.getElem?_eq_some_iff.mp hi).1
        obtain ⟨t, et, ht⟩ := hT2.pickV hi
        obtain ⟨pt, u, v, rfl, hpt, hu, hv⟩ := ht.tk (Tk.same s3)
        have hA3 := s3.seq hA2
        have hB3 := s3.seq hB2
        have fin : ∀ c, c = ((decide (t.one ∈ LA) && decide (t.other ∈ LA)) || (decide (t.one ∈ LB) && decide (t.other ∈ LB))) → ∃ acc, H3 D2 = some (.lst acc) ∧ acc.length < sizeLine ∧ Same H2 (upd H3 D2 (.lst (acc ++ [V.bl c]))) ∧ upd H3 D2 (.lst (acc ++ [V.bl c])) D2 = some (.lst (((ts.take (i + 1)).map fun t => (decide (t.one ∈ LA) && decide (t.other ∈ LA)) || (decide (t.one ∈ LB) && decide (t.other ∈ LB))).map V.bl)) := fun c hc => by
          refine ⟨_, hD3, by rw [List.length_map, List.length_map, List.length_take]; exact small1000 (by omega), same_seqT_upd s3 hD2' hD3, ?_⟩
          rw [upd_same, List.take_add_one, et, List.map_append, List.map_append, hc]
          rfl
        refine ⟨rfl, tYes_of (iteT (gB_or (gB_and (fun Q q => ⟨_, rfl, pt, _, _, _, rfl, rfl, hpt, rfl, _, rfl, in_list hA3 q⟩) (fun Q q => ⟨_, rfl, pt, _, _, _, rfl, rfl, hpt, rfl, _, rfl, in_list hA3 q⟩)) (gB_and (fun Q q => ⟨_, rfl, pt, _, _, _, rfl, rfl, hpt, rfl, _, rfl, in_list hB3 q⟩) (fun Q q => ⟨_, rfl, pt, _, _, _, rfl, rfl, hpt, rfl, _, rfl, in_list hB3 q⟩)) _ (fin _ rfl)))⟩
      · rintro H3 ⟨s3, hD3⟩
        rw [lus, List.take_length] at hD3
        refine ⟨D2, ts.map fun t => (decide (t.one ∈ LA) && decide (t.other ∈ LA)) || (decide (t.one ∈ LB) && decide (t.other ∈ LB)), rfl, SqL.of hD3, ?_⟩
        rw [List.all_map]
        exact q _ (s2.trans s3)
def spViewX (K : PySem.W.Frag) (CW : Addr × Addr) : Sp := fun vs H Q E => ∃ (f : Int) (F : Fd f) (v : V) (sz : List Nat) (ts : List (Tie F.F)) (r : Addr) (P : List Int), vs = [v, .ref r] ∧ IsF f ∧ WebT K H F v sz ts ∧ WebOk F sz ts ∧ SqL K H r (P.map V.int) ∧ P.length ≤ 100 ∧ (goodV sz P = false → Raised K CW "badview" H E) ∧
  (goodV sz P = true → ∀ P', P = toI P' → ViewOk sz P' → ∀ H' v', Same H H' → WebT K H' F v' (viewS sz P') (viewT P' ts) → Q v' H')
theorem len_view {K CW vs H Q E} (h : spViewX K CW vs H Q E) : vs.length = (["web", "places"] : List Str).length := by
  obtain ⟨f, F, v, sz, ts, r, P, rfl, _⟩ := h
  rfl
theorem d_view {P : Program} {w : World} {K : PySem.W.Frag} {mg : Str → Option Value} {base : Heap} {CW : Addr × Addr} {fI fJ : Addr} (R : Raw K mg "view" s_view) (B : Bn mg) (D_check_web : Def P w K mg base "check_web" 6 ["web"] (spChkWeb K)) (D_check_view : DefX P w K mg base "check_view" 3 ["web", "places"] (spChkView K CW)) (D_view_at : Def P w K mg base "view_at" 1 ["web", "places"] (spViewAt K)) : DefX P w K mg base "view" 7 ["web", "places"] (spViewX K CW) := by
  obtain ⟨f, fd, F, m⟩ := R
  obtain ⟨f_check_web, fd_check_web, G_check_web, m_check_web, k_check_web, b_check_web⟩ := D_check_web
  obtain ⟨f_check_view, fd_check_view, G_check_view, m_check_view, k_check_view, b_check_view⟩ := D_check_view
  obtain ⟨f_view_at, fd_view_at, G_view_at, m_view_at, k_view_at, b_view_at⟩ := D_view_at
  refine ⟨f, fd, F.okX sc_view (fun vs H Q E h => ?_) (fun cdv A outer s H vs Q E hr h => ?_), m, F.kp, F.binds (ps := ["web", "places"]) fun _ _ _ _ _ _ us hl => match us, hl with | [_, _], _ => rfl⟩
  · exact len_view h

  · obtain ⟨f, F, v, sz, ts, r, P, rfl, hf, hW, ok, hP, l9, qx, q⟩ := h
    refine ⟨_, (pss_cons (ps_expr (pe_call G_check_web (hr.mono (by omega)) (by rfl) m_check_web k_check_web b_check_web .nil pass0 (pa_cons (pv 0) pa_nil))) (pss_cons (ps_expr (pe_call G_check_view (hr.mono (by omega)) (by rfl) m_check_view k_check_view b_check_view .nil (passes_call (takes_of rfl rfl rfl rfl) (fun _ _ _ _ h => h)) (pa_cons (pv 0) (pa_cons (pv 1) pa_nil)))) (pss_one (ps_ret (pe_call G_view_at (hr.mono (by omega)) (by rfl) m_view_at k_view_at b_view_at .nil pass0 (pa_cons (pv 0) (pa_cons (pv 1) pa_nil))))))), ?_⟩
    refine ⟨_, rfl, f, F, v, sz, ts, rfl, hf, hW, ok, fun H1 s1 => ?_⟩
    refine ⟨_, rfl, _, rfl, f, F, v, sz, ts, r, P, rfl, hW.tk (Tk.same s1), s1.seq hP, l9, fun hg H2 s2 => ?_, fun hg => (qx hg).same s1⟩
    have s12 := s1.trans s2
    obtain ⟨P', rfl, hV⟩ := goodV_view ok.len8 hg
    exact ⟨_, rfl, _, rfl, f, F, v, sz, ts, r, P', rfl, hW.tk (Tk.same s12), ok.len12, by rw [← toI_ints]; exact s12.seq hP, hV, fun H3 v3 s3 hv3 => q hg P' rfl hV _ _ (s12.trans s3) hv3⟩
def seenQ (P : List Nat) (QS : List (List Pr)) : List (List Pr) := P.map fun p => QS.getD p []
def spSeenX (K : PySem.W.Frag) (CW : Addr × Addr) : Sp := fun vs H Q E => ∃ (f : Int) (F : Fd f) (v : V) (sz : List Nat) (ts : List (Tie F.F)) (r c : Addr) (P : List Int) (xs : List V) (QS : List (List Pr)), vs = [v, .ref r, .ref c] ∧ IsF f ∧ WebT K H F v sz ts ∧ WebOk F sz ts ∧ SqL K H r (P.map V.int) ∧ P.length ≤ 100 ∧ SqL K H c xs ∧ ColsQ K H xs QS ∧ (∀ qs ∈ QS, qs.length ≤ 900) ∧
  (goodV sz P = false → Raised K CW "badview" H E) ∧ (goodV sz P = true → okCols f sz QS = false → Raised K CW "badwhole" H E) ∧
  (goodV sz P = true → okCols f sz QS = true → ∀ P', P = toI P' → ViewOk sz P' → ∀ H' D ys, Same H H' → H D = none → H' D = some (.lst ys) → ColsQ K H' ys (seenQ P' QS) → Q (.ref D) H')
theorem len_seen {K CW vs H Q E} (h : spSeenX K CW vs H Q E) : vs.length = (["web", "places", "whole"] : List Str).length := by
  obtain ⟨f, F, v, sz, ts, r, c, P, xs, QS, rfl, _⟩ := h
  rfl
theorem ColsQ.pickQ {K : PySem.W.Frag} {H : Hp} : ∀ {xs : List V} {QS : List (List Pr)} {i : Nat} {q : List Pr}, ColsQ K H xs QS → QS[i]? = some q → ∃ x, xs[i]? = some x ∧ ColQ K H x q
  | _, _, i, q, .nil, e => by simp at e
  | _, _, 0, q, .cons g r, e => by
    have e := Option.some.inj ((List.getElem?_cons_zero ..).symm.trans e)
    subst e
    exact ⟨_, rfl, g⟩
  | _, _, i + 1, q, .cons g r, e => by
    obtain ⟨m, h1, h2⟩ := ColsQ.pickQ (i := i) (q := q) r (by simpa using e)
    exact ⟨m, by simpa using h1, h2⟩
theorem d_seen {P : Program} {w : World} {K : PySem.W.Frag} {mg : Str → Option Value} {base : Heap} {CW : Addr × Addr} {fI fJ : Addr} (R : Raw K mg "seen" s_seen) (B : Bn mg) (D_check_web : Def P w K mg base "check_web" 6 ["web"] (spChkWeb K)) (D_check_view : DefX P w K mg base "check_view" 3 ["web", "places"] (spChkView K CW)) (D_check_whole : DefX P w K mg base "check_whole" 4 ["web", "whole"] (spChkWhX K CW)) : DefX P w K mg base "seen" 7 ["web", "places", "whole"] (spSeenX K CW) := by
  obtain ⟨f, fd, F, m⟩ := R
  obtain ⟨f_check_web, fd_check_web, G_check_web, m_check_web, k_check_web, b_check_web⟩ := D_check_web
  obtain ⟨f_check_view, fd_check_view, G_check_view, m_check_view, k_check_view, b_check_view⟩ := D_check_view
  obtain ⟨f_check_whole, fd_check_whole, G_check_whole, m_check_whole, k_check_whole, b_check_whole⟩ := D_check_whole
  refine ⟨f, fd, F.okX sc_seen (fun vs H Q E h => ?_) (fun cdv A outer s H vs Q E hr h => ?_), m, F.kp, F.binds (ps := ["web", "places", "whole"]) fun _ _ _ _ _ _ us hl => match us, hl with | [_, _, _], _ => rfl⟩
  · exact len_seen h

  · obtain ⟨f, F, v, sz, ts, r, c, P, xs, QS, rfl, hf, hW, ok, hP, l9, hc, hQ, lw, qv, qw, q⟩ := h
    refine ⟨_, (pss_cons (ps_expr (pe_call G_check_web (hr.mono (by omega)) (by rfl) m_check_web k_check_web b_check_web .nil pass0 (pa_cons (pv 0) pa_nil))) (pss_cons (ps_expr (pe_call G_check_view (hr.mono (by omega)) (by rfl) m_check_view k_check_view b_check_view .nil (passes_call (takes_of rfl rfl rfl rfl) (fun _ _ _ _ h => h)) (pa_cons (pv 0) (pa_cons (pv 1) pa_nil)))) (pss_cons (ps_expr (pe_call G_check_whole (hr.mono (by omega)) (by rfl) m_check_whole k_check_whole b_check_whole .nil (passes_call (takes_of rfl rfl rfl rfl) (fun _ _ _ _ h => h)) (pa_cons (pv 0) (pa_cons (pv 2) pa_nil)))) (pss_one (ps_ret (pe_lc (own := [("place", 3)]) (g := gName 3) (tt := tYes) rfl sc_seen.nd (pi_list (pv 1)) (blkOk_by (N := ["web", "places", "whole", "place"]) (sc := defScope s_seen) (by decide +kernel)) (fun _ _ _ _ _ => pg_name (i := 3) sc_seen.nd rfl (Or.inl rfl)) (fun _ _ _ _ _ => pts_nil) (fun _ _ _ _ _ => (pe_ix (show IxR _ (rIxL K) from ix_list) (pv 2) (pv 3) (fun _ _ => rfl))))))))), ?_⟩
    refine ⟨_, rfl, f, F, v, sz, ts, rfl, hf, hW, ok, fun H1 s1 => ?_⟩
    refine ⟨_, rfl, _, rfl, f, F, v, sz, ts, r, P, rfl, hW.tk (Tk.same s1), s1.seq hP, l9, fun hg H2 s2 => ?_, fun hg => (qv hg).same s1⟩
    have s12 := s1.trans s2
    refine ⟨_, rfl, _, rfl, f, F, v, sz, ts, c, xs, QS, rfl, hW.tk (Tk.same s12), by have := ok.len8; omega, s12.seq hc, hQ.tk (Tk.same s12), lw, fun hw H3 s3 => ?_, fun hw => (qw hg hw).same s12⟩
    have s13 := s12.trans s3
    obtain ⟨P', rfl, hV⟩ := goodV_view ok.len8 hg
    have q := q hg hw P' rfl hV
    have hP3 : SqL K H3 r (intsV P') := by
      rw [← toI_ints]
      exact s13.seq hP
    have hc3 := s13.seq hc
    have lC : QS.length = sz.length := by
      unfold okCols at hw
      rw [Bool.and_eq_true] at hw
      exact of_decide_eq_true hw.1
    have lx := hQ.len
    refine ⟨_, rfl, r, rfl, ⟨_, hP3⟩, fun D hD => lc_list (K := K) (a := r) (xs := intsV P') (fun i H' => Same H3 H' ∧ ∃ zs, H' D = some (.lst zs) ∧ ColsQ K H' zs ((seenQ P' QS).take i)) ⟨same_new hD, [], upd_same, .nil⟩ (fun i H' _ ⟨s, _⟩ => s.seq hP3) ?_ ?_⟩
    · rintro i x H4 hi ⟨s4, zs, hz, hzs⟩
      have hil := (List.getElem?_eq_some_iff.mp hi).1
      have p8 := hV.2.2.2
      have lP : (intsV P').length = P'.length := List.length_map ..
      unfold intsV at hi
      rw [List.getElem?_map] at hi
      obtain ⟨p, hp, rfl⟩ := Option.map_eq_some_iff.mp hi
      have hps := hV.2.2.1 p (List.mem_of_getElem? hp)
      have hQ4 := hQ.tk (Tk.same (K := K) (s13.trans s4))
      have ec : QS[p]? = some (QS.getD p []) := by
        rw [List.getD_eq_getElem?_getD, List.getElem?_eq_getElem (show p < QS.length by omega)]
        rfl
      obtain ⟨x, hx, hxr⟩ := hQ4.pickQ ec
      have lz := hzs.len
      rw [List.length_take] at lz
      refine ⟨rfl, tYes_of (iteT ⟨_, rfl, _, rfl, c, xs, _, x, rfl, rfl, s4.seq hc3, atI_nat hx, zs, hz, small1000 (by omega), same_seqT_upd s4 hD hz, zs ++ [x], upd_same, ?_⟩)⟩
      have e : (seenQ P' QS)[i]? = some (QS.getD p []) := by
        unfold seenQ
        rw [List.getElem?_map, hp]
        rfl
      rw [List.take_add_one, e]
      exact (ColsQ.snoc hxr hzs).tk (Tk.put hz)
    · rintro H4 ⟨s4, zs, hz, hzs⟩
      have lS : (intsV P').length = (seenQ P' QS).length := by
        unfold intsV seenQ
        rw [List.length_map, List.length_map]
      rw [lS, List.take_length] at hzs
      exact q _ D zs (s13.trans s4) (s13.free hD) hz hzs
def spCoversX (K : PySem.W.Frag) (CW : Addr × Addr) : Sp := fun vs H Q E => ∃ (f : Int) (F : Fd f) (v : V) (sz : List Nat) (ts : List (Tie F.F)) (a b : Addr) (IA IB : List Int), vs = [v, .ref a, .ref b] ∧ IsF f ∧ WebT K H F v sz ts ∧ WebOk F sz ts ∧ SqL K H a (IA.map V.int) ∧ SqL K H b (IB.map V.int) ∧ IA.length ≤ 100 ∧ IB.length ≤ 100 ∧
  ((goodV sz IA && goodV sz IB) = false → Raised K CW "badview" H E) ∧ ((goodV sz IA && goodV sz IB) = true → ∀ LA LB, IA = toI LA → IB = toI LB → ∀ H', Same H H' → Q (.bl (covB sz.length ts LA LB)) H')
theorem len_covers {K CW vs H Q E} (h : spCoversX K CW vs H Q E) : vs.length = (["web", "one", "other"] : List Str).length := by
  obtain ⟨f, F, v, sz, ts, a, b, IA, IB, rfl, _⟩ := h
  rfl
theorem d_covers {P : Program} {w : World} {K : PySem.W.Frag} {mg : Str → Option Value} {base : Heap} {CW : Addr × Addr} {fI fJ : Addr} (R : Raw K mg "covers" s_covers) (B : Bn mg) (D_check_web : Def P w K mg base "check_web" 6 ["web"] (spChkWeb K)) (D_check_view : DefX P w K mg base "check_view" 3 ["web", "places"] (spChkView K CW)) (D_covered : Def P w K mg base "covered" 1 ["web", "one", "other"] (spCovered K)) : DefX P w K mg base "covers" 7 ["web", "one", "other"] (spCoversX K CW) := by
  obtain ⟨f, fd, F, m⟩ := R
  obtain ⟨f_check_web, fd_check_web, G_check_web, m_check_web, k_check_web, b_check_web⟩ := D_check_web
  obtain ⟨f_check_view, fd_check_view, G_check_view, m_check_view, k_check_view, b_check_view⟩ := D_check_view
  obtain ⟨f_covered, fd_covered, G_covered, m_covered, k_covered, b_covered⟩ := D_covered
  refine ⟨f, fd, F.okX sc_covers (fun vs H Q E h => ?_) (fun cdv A outer s H vs Q E hr h => ?_), m, F.kp, F.binds (ps := ["web", "one", "other"]) fun _ _ _ _ _ _ us hl => match us, hl with | [_, _, _], _ => rfl⟩
  · exact len_covers h

  · obtain ⟨f, F, v, sz, ts, a, b, IA, IB, rfl, hf, hW, ok, hA, hB, l1, l2, qx, q⟩ := h
    refine ⟨_, (pss_cons (ps_expr (pe_call G_check_web (hr.mono (by omega)) (by rfl) m_check_web k_check_web b_check_web .nil pass0 (pa_cons (pv 0) pa_nil))) (pss_cons (ps_expr (pe_call G_check_view (hr.mono (by omega)) (by rfl) m_check_view k_check_view b_check_view .nil (passes_call (takes_of rfl rfl rfl rfl) (fun _ _ _ _ h => h)) (pa_cons (pv 0) (pa_cons (pv 1) pa_nil)))) (pss_cons (ps_expr (pe_call G_check_view (hr.mono (by omega)) (by rfl) m_check_view k_check_view b_check_view .nil (passes_call (takes_of rfl rfl rfl rfl) (fun _ _ _ _ h => h)) (pa_cons (pv 0) (pa_cons (pv 2) pa_nil)))) (pss_one (ps_ret (pe_call G_covered (hr.mono (by omega)) (by rfl) m_covered k_covered b_covered .nil pass0 (pa_cons (pv 0) (pa_cons (pv 1) (pa_cons (pv 2) pa_nil))))))))), ?_⟩
    refine ⟨_, rfl, f, F, v, sz, ts, rfl, hf, hW, ok, fun H1 s1 => ?_⟩
    refine ⟨_, rfl, _, rfl, f, F, v, sz, ts, a, IA, rfl, hW.tk (Tk.same s1), s1.seq hA, l1, fun g1 H2 s2 => ?_, fun hg => (qx (by rw [hg, Bool.false_and])).same s1⟩
    have s12 := s1.trans s2
    refine ⟨_, rfl, _, rfl, f, F, v, sz, ts, b, IB, rfl, hW.tk (Tk.same s12), s12.seq hB, l2, fun g2 H3 s3 => ?_, fun hg => (qx (by rw [hg, Bool.and_false])).same s12⟩
    have s13 := s12.trans s3
    obtain ⟨LA, rfl, _⟩ := goodV_view ok.len8 g1
    obtain ⟨LB, rfl, _⟩ := goodV_view ok.len8 g2
    have l8 := ok.len8
    have l12 := ok.len12
    exact ⟨_, rfl, _, rfl, _, rfl, f, F, v, sz, ts, a, b, LA, LB, rfl, hW.tk (Tk.same s13), by omega, by omega, by rw [← toI_ints]; exact s13.seq hA, by rw [← toI_ints]; exact s13.seq hB, fun H4 s4 => q (by rw [g1, g2]; rfl) LA LB rfl rfl _ (s13.trans s4)⟩

open Lin
def spLPlaces (K : PySem.W.Frag) : Sp := fun vs H Q _ => ∃ (box l : Addr) (f : Int) (F : Fd f) (v : V) (sz : List Nat) (ts : List (Tie F.F)), vs = [.ref box, v] ∧ BoxAt H box l ∧ WebT K H F v sz ts ∧ WebOk F sz ts ∧ ∀ H' r P, Stp box l H H' → r ≠ box → H r = none → H' r = some (.lst (intsV P)) → ViewOk sz P → Q (.ref r) H'
theorem len__law_places {K vs H Q E} (h : spLPlaces K vs H Q E) : vs.length = (["_law_box", "_law_web_here"] : List Str).length := by
  obtain ⟨box, l, f, F, v, sz, ts, rfl, _⟩ := h
  rfl
theorem d__law_places {P : Program} {w : World} {K : PySem.W.Frag} {mg : Str → Option Value} {base : Heap} (R : Raw K mg "_law_places" s__law_places) (B : Bn mg) (D__law_draw : Def P w K mg base "_law_draw" 1 ["_law_box", "_law_many"] (spDraw)) : Def P w K mg base "_law_places" 2 ["_law_box", "_law_web_here"] (spLPlaces K) := by
  obtain ⟨f, fd, F, m⟩ := R
  obtain ⟨f__law_draw, fd__law_draw, G__law_draw, m__law_draw, k__law_draw, b__law_draw⟩ := D__law_draw
  refine ⟨f, fd, F.ok sc__law_places (fun vs H Q E h => ?_) (fun cdv A outer s H vs Q E hr h => ?_), m, F.kp, F.binds (ps := ["_law_box", "_law_web_here"]) fun _ _ _ _ _ _ us hl => match us, hl with | [_, _], _ => rfl⟩
  · exact len__law_places h

  · obtain ⟨box, l, f, F, v, sz, ts, rfl, hb, hW, ok, q⟩ := h
    refine ⟨_, (pss_cons (ps_setLc (i := 3) (own := [("_law_place", 2)]) (g := gName 2) rfl sc__law_places.nd rfl rfl (sw_true rfl rfl rfl (by decide +kernel)) (pi_range1 (by rfl) B.range (pa_cons (pe_callB call_len_seq (by rfl) B.len PySem.boot_len (pa_cons (pe_ix ix_tup (pv 1) pe_int (fun _ _ => rfl)) pa_nil)) pa_nil)) (blkOk_by (N := ["_law_box", "_law_web_here", "_law_place", "_law_found"]) (sc := defScope s__law_places) (by decide +kernel)) (fun _ _ _ _ _ => pg_name (i := 2) sc__law_places.nd rfl (Or.inl rfl)) (fun _ _ _ _ _ => pts_one (pt_cmpR op_gt (pe_call G__law_draw (hr.mono (by omega)) (by rfl) m__law_draw k__law_draw b__law_draw .nil pass0 (pa_cons (pv 0) (pa_cons pe_int pa_nil))) pe_int (nomark _))) (fun _ _ _ _ _ => (pv 2))) (pss_one (ps_ret (pe_ifExp (pt_cmpR (op_neD hr.units) (pv 3) (pe_lst pa_nil) (nomark _)) (pv 3) (pe_lst (pa_cons (pe_call G__law_draw (hr.mono (by omega)) (by rfl) m__law_draw k__law_draw b__law_draw .nil pass0 (pa_cons (pv 0) (pa_cons (pe_callB call_len_seq (by rfl) B.len PySem.boot_len (pa_cons (pe_ix ix_tup (pv 1) pe_int (fun _ _ => rfl)) pa_nil)) pa_nil))) pa_nil)))))), ?_⟩
    obtain ⟨pw, pa, pb, us, rfl, hw, ha, hbt, hT⟩ := id hW
    have l8 := ok.len8
    have l0 := ok.len0
    have li : (intsV sz).length = sz.length := List.length_map ..
    refine ⟨_, rfl, pw, _, _, _, rfl, rfl, hw, rfl, pa, _, rfl, .inr ha, _, rfl, by omega, by omega, fun D hD => ?_⟩
    have nDb := hb.ne hD
    have nDl : D ≠ l := by
      obtain ⟨_, _, _, _, _, _, b2, _⟩ := hb
      exact (ne_of_none b2 hD).symm
    have up : ∀ {H4 : Hp} {o : HO}, Keep box H H4 → Keep box H (upd H4 D o) := fun k b u n e => by
      rw [upd_ne (fun z => by rw [z, hD] at e; cases e)]
      exact k b u n e
    refine lc_range (lo := 0) (n := (((intsV sz).length : Nat) : Int).toNat) (fun i H' => BoxAt H' box l ∧ Keep box H H' ∧ ∃ P, H' D = some (.lst (intsV P)) ∧ P.Pairwise (· < ·) ∧ (∀ p ∈ P, p < i) ∧ P.length ≤ i) ⟨hb.putL nDb nDl, up (Keep.refl _ _), [], upd_same, .nil, (fun p h => by cases h), Nat.le_refl _⟩ ?_ ?_
    · rintro i H2 hi ⟨hb2, k2, P, hP, h1, h2, h3⟩
      have e0 : (0 : Int) + (i : Int) = ((i : Nat) : Int) := Int.zero_add _
      rw [e0]
      have lP : (intsV P).length = P.length := List.length_map ..
      refine ⟨rfl, ?_⟩
      refine ⟨_, rfl, box, l, _, rfl, hb2, by decide, by decide +kernel, fun H3 d st d0 d1 => ?_⟩
      have hP3 := st.keep _ _ nDb hP
      refine ⟨_, _, rfl, rfl, _, rfl, ite2 (fun e => ?_) (fun e => ?_)⟩
      · refine ⟨_, rfl, _, hP3, small1000 (by omega), st.box.putL nDb nDl, up (k2.trans st.keep), P ++ [i], ?_, ?_, fun p hp => ?_, by rw [List.length_append]; show P.length + 1 ≤ _; omega⟩
        · rw [upd_same]
          unfold intsV
          rw [List.map_append]
          rfl
        · refine List.pairwise_append.mpr ⟨h1, List.pairwise_singleton _ _, fun a ha b hb => ?_⟩
          rw [List.mem_singleton.mp hb]
          exact h2 a ha
        · rcases List.mem_append.mp hp with hp | hp
          · have := h2 p hp
            omega
          · rw [List.mem_singleton.mp hp]
            omega
      · exact ⟨st.box, k2.trans st.keep, P, hP3, h1, fun p hp => by have := h2 p hp; omega, by omega⟩
    rintro H2 ⟨hb2, k2, P, hP, h1, h2, h3⟩
    have e1 : (((intsV sz).length : Nat) : Int).toNat = sz.length := by omega
    rw [e1] at h2 h3
    refine gName_go3 (nx_go3 ?_)
    refine ⟨_, rfl, (by show 0 ≤ sizeLine; decide), fun pe hpe => ?_⟩
    have te := same_new (o := .lst []) hpe
    have dpi : ∀ P : List Nat, DpAll K (upd H2 pe (.lst [])) (intsV P) (P.map fun n : Nat => PyData.int (n : Int)) := fun P => by
      induction P with
      | nil => exact .nil
      | cons a P ih => exact .cons (.int _) ih
    have layI : ∀ P : List Nat, LayN 1 (.list (P.map fun n : Nat => PyData.int (n : Int))) := fun P => lay_list fun d hd => by
      obtain ⟨n, _, rfl⟩ := List.mem_map.mp hd
      exact lay_int _
    have eqN : PyData.eqv (.list (P.map fun n : Nat => PyData.int (n : Int))) (.list []) = decide (P = []) := by
      cases P with
      | nil => rfl
      | cons a P => rfl
    have st12 : Stp box l H H2 := ⟨k2, hb2⟩
    refine ⟨.list (P.map fun n : Nat => PyData.int (n : Int)), .list [], .lst (SqL.of (te _ _ hP)) (dpi P), .lst (SqL.of upd_same) .nil, (layI P).shaped (by decide), (layI []).shaped (by decide), _, rfl, ?_⟩
    rw [eqN]
    refine ite2 (fun e => ?_) (fun e => ?_)
    · have ne : P ≠ [] := fun z => by
        rw [decide_eq_true z] at e
        cases e
      exact ⟨_, rfl, q _ D P (st12.same te) nDb hD (te _ _ hP) ⟨ne, h1, h2, by omega⟩⟩
    · have hb3 := hb2.same te
      have st13 := st12.same te
      have k13 := Tk.stp (K := K) hb st13
      have ha3 := k13 _ _ ha
      refine ⟨_, rfl, _, rfl, pw, _, _, _, rfl, rfl, k13 _ _ hw, rfl, pa, _, rfl, .inr ha3, box, l, _, rfl, hb3, by omega, log_small (by omega) (by omega), fun H4 d st4 d0 d1 => ?_⟩
      obtain ⟨d, rfl⟩ := Int.eq_ofNat_of_zero_le d0
      refine ⟨(by show 1 ≤ sizeLine; decide), fun pn hpn => ?_⟩
      have tn := same_new (o := .lst [.int (d : Nat)]) hpn
      have st14 := (st13.trans st4).same tn
      refine q _ pn [d] st14 (st4.box.ne hpn) ((st13.trans st4).free hpn) upd_same ⟨by simp, List.pairwise_singleton _ _, fun p hp => ?_, (by show 1 ≤ 8; decide)⟩
      rw [List.mem_singleton.mp hp]
      omega

open Lin
theorem log_s8 {n : Nat} (h : n ≤ 1000) : n.log2 < 9000 := Nat.lt_of_le_of_lt (Nat.log2_le_self n) (by omega)
def spLView (K : PySem.W.Frag) : Sp := fun vs H Q _ => ∃ (f : Int) (F : Fd f) (v : V) (sz : List Nat) (ts : List (Tie F.F)) (r : Addr) (P : List Nat), vs = [v, .ref r] ∧ WebT K H F v sz ts ∧ ts.length ≤ 12 ∧ SqL K H r (intsV P) ∧ ViewOk sz P ∧ ∀ H' v', Same H H' → WebT K H' F v' (viewS sz P) (viewT P ts) → Q v' H'
theorem len__law_view {K vs H Q E} (h : spLView K vs H Q E) : vs.length = 2 := by
  obtain ⟨f, F, v, sz, ts, r, P, rfl, _⟩ := h
  rfl
theorem d__law_view {P : Program} {w : World} {K : PySem.W.Frag} {mg : Str → Option Value} {base : Heap} (R : Raw K mg "_law_view" s__law_view) (B : Bn mg)  : Def P w K mg base "_law_view" 1 ["_law_web_here", "_law_places_here"] (spLView K) := by
  obtain ⟨f, fd, F, m⟩ := R
  refine ⟨f, fd, F.ok sc__law_view (fun vs H Q E h => ?_) (fun cdv A outer s H vs Q E hr h => ?_), m, F.kp, F.binds (ps := ["_law_web_here", "_law_places_here"]) fun _ _ _ _ _ _ us hl => match us, hl with | [_, _], _ => rfl⟩
  · exact len__law_view h

  · obtain ⟨f, F, v, sz, ts, r, P, rfl, hW, t12, hP, ⟨p0, prise, pin, p8⟩, q⟩ := h
    refine ⟨_, (pss_cons (ps_set (i := 2) sc__law_view.nd rfl (Or.inl rfl) (pe_lst pa_nil)) (pss_cons (ps_for PassesOwn.never rfl (pi_tup (pe_ix ix_tup (pv 0) pe_int (fun _ _ => rfl))) (pg_tup (by rfl) (pgs_cons (pg_name (i := 3) sc__law_view.nd rfl (Or.inl rfl)) (pgs_cons (pg_name (i := 4) sc__law_view.nd rfl (Or.inl rfl)) (pgs_cons (pg_name (i := 5) sc__law_view.nd rfl (Or.inl rfl)) (pgs_cons (pg_name (i := 6) sc__law_view.nd rfl (Or.inl rfl)) (pgs_cons (pg_name (i := 7) sc__law_view.nd rfl (Or.inl rfl)) pgs_nil)))))) (pss_one (ps_if (PW.pt (pw_and (pt_cmpR op_in_seq (pv 3) (pv 1) (by rfl)) (pw_and1 (pt_cmpR op_in_seq (pv 4) (pv 1) (by rfl))))) (pss_one (ps_expr (pe_bm PySem.F.plainAttrs_list PySem.F.slot_list_append PySem.F.type_list_append mt_append (pv 2) (pa_cons (pe_tup (pa_cons (by exact pe_bm PySem.F.plainAttrs_list PySem.F.slot_list_index PySem.F.type_list_index mt_index (pv 1) (pa_cons (pv 3) pa_nil)) (pa_cons (by exact pe_bm PySem.F.plainAttrs_list PySem.F.slot_list_index PySem.F.type_list_index mt_index (pv 1) (pa_cons (pv 4) pa_nil)) (pa_cons (pv 5) (pa_cons (pv 6) (pa_cons (pv 7) pa_nil)))))) pa_nil)))) pss_nil))) (pss_one (ps_ret (pe_tup (pa_cons (pe_ix ix_tup (pv 0) pe_int (fun _ _ => rfl)) (pa_cons (pe_callTy call_tuple_of (by rfl) B.tuple (by decide +kernel) (pa_cons (pe_lc (own := [("_law_place", 8)]) (g := gName 8) (tt := tYes) rfl sc__law_view.nd (pi_list (pv 1)) (blkOk_by (N := ["_law_web_here", "_law_places_here", "_law_ties", "_law_one", "_law_other", "_law_room", "_law_first", "_law_second", "_law_place"]) (sc := defScope s__law_view) (by decide +kernel)) (fun _ _ _ _ _ => pg_name (i := 8) sc__law_view.nd rfl (Or.inl rfl)) (fun _ _ _ _ _ => pts_nil) (fun _ _ _ _ _ => (pe_ix (show IxR _ (rIxT K) from ix_tup) (pe_ix (show IxR _ (rIxT K) from ix_tup) (pv 0) pe_int (fun _ _ => rfl)) (pv 8) (fun _ _ => rfl)))) pa_nil)) (pa_cons (pe_callTy call_tuple_of (by rfl) B.tuple (by decide +kernel) (pa_cons (pv 2) pa_nil)) pa_nil)))))))), ?_⟩
    have lP : (intsV P).length = P.length := List.length_map ..
    obtain ⟨pw, pa, pb, us, rfl, hw, ha, hb, hT⟩ := id hW
    have lus := hT.len
    refine ⟨(by show 0 ≤ sizeLine; decide), fun D hD => gName_go3 (nx_go3 ?_)⟩
    refine ⟨_, rfl, pw, _, _, _, rfl, rfl, Same.seqT (same_new hD) hw, rfl, pb, rfl, ⟨_, Same.seqT (same_new hD) hb⟩, for_tup (K := K) (a := pb) (xs := us) (fun i σ H' => Same H H' ∧ (∃ zs, H' D = some (.lst zs) ∧ TiesT K H' F zs (viewT P (ts.take i))) ∧ ∃ z3 z4 z5 z6 z7 z8 : Option V, σ = [some (.ref pw), some (.ref r), some (.ref D), z3, z4, z5, z6, z7, z8]) ⟨same_new hD, ⟨[], upd_same, .nil⟩, _, _, _, _, _, _, rfl⟩ (fun i σ H' _ h => Same.seqT h.1 hb) ?_ ?_⟩
    · rintro i x σ H2 hi ⟨s2, ⟨zs, hz, hzs⟩, z3, z4, z5, z6, z7, z8, rfl⟩
      have hil := (List.getElem?_eq_some_iff.mp hi).1
      obtain ⟨t, et, ht⟩ := hT.pickV hi
      obtain ⟨pt, u, v, rfl, hpt, hu, hv⟩ := ht.tk (Tk.same s2)
      have hP2 := s2.seq hP
      have lzs := hzs.len
      have lv : (viewT P (ts.take i)).length ≤ 12 := by
        unfold viewT
        rw [List.length_map]
        refine Nat.le_trans (List.length_filter_le ..) ?_
        rw [List.length_take]
        omega
      have ev : viewT P (ts.take (i + 1)) = if t.one ∈ P ∧ t.other ∈ P then viewT P (ts.take i) ++ [⟨P.idxOf t.one, P.idxOf t.other, t.room, t.fst, t.snd⟩] else viewT P (ts.take i) := by
        unfold viewT
        rw [List.take_add_one, et, List.filter_append]
        by_cases c : t.one ∈ P ∧ t.other ∈ P
        · have e1 : ((some t).toList.filter fun t => decide (t.one ∈ P) && decide (t.other ∈ P)) = [t] := List.filter_eq_self.mpr fun s hs => by
            rw [List.mem_singleton.mp hs, decide_eq_true c.1, decide_eq_true c.2]
            rfl
          rw [if_pos c, e1, List.map_append]
          rfl
        · have e1 : ((some t).toList.filter fun t => decide (t.one ∈ P) && decide (t.other ∈ P)) = [] := List.filter_eq_nil_iff.mpr fun s hs => by
            rw [List.mem_singleton.mp hs, Bool.and_eq_true, decide_eq_true_iff, decide_eq_true_iff]
            exact c
          rw [if_neg c, e1, List.append_nil]
      have no : ¬ (t.one ∈ P ∧ t.other ∈ P) → ∃ zs, H2 D = some (.lst zs) ∧ TiesT K H2 F zs (viewT P (ts.take (i + 1))) := fun c => ⟨zs, hz, by rw [ev, if_neg c]; exact hzs⟩
      refine ⟨pt, _, rfl, hpt, rfl, _, _, rfl, _, _, rfl, _, _, rfl, _, _, rfl, _, _, rfl, rfl, ?_⟩
      refine ⟨_, rfl, _, rfl, in_list hP2 ⟨_, rfl, ite2 (fun e1 => ?_) (fun e1 => ?_)⟩⟩
      rotate_left
      · exact ⟨s2, no fun z => e1 (decide_eq_true z.1), _, _, _, _, _, _, rfl⟩
      have m1 := of_decide_eq_true e1
      refine ⟨_, rfl, _, rfl, in_list hP2 ⟨_, rfl, ite2 (fun e2 => ?_) (fun e2 => ?_)⟩⟩
      rotate_left
      · exact ⟨s2, no fun z => e2 (decide_eq_true z.2), _, _, _, _, _, _, rfl⟩
      have m2 := of_decide_eq_true e2
      refine ⟨_, rfl, .inl ⟨rfl, _, SqL.of hz⟩, ?_⟩
      refine ⟨_, rfl, .inl ⟨rfl, _, hP2⟩, _, rfl, r, intsV P, .int (t.one : Nat), P.idxOf t.one, .int (t.one : Nat), rfl, rfl, hP2, rfl, flat_intsV P, idx_get m1, idx_eq _, idx_no m1, ?_⟩
      refine ⟨_, rfl, .inl ⟨rfl, _, hP2⟩, _, rfl, r, intsV P, .int (t.other : Nat), P.idxOf t.other, .int (t.other : Nat), rfl, rfl, hP2, rfl, flat_intsV P, idx_get m2, idx_eq _, idx_no m2, ?_⟩
      refine ⟨_, rfl, _, rfl, _, rfl, (by show 5 ≤ sizeLine; decide), fun pn hpn => ?_⟩
      have sn := same_new (o := .tup [.int (P.idxOf t.one : Nat), .int (P.idxOf t.other : Nat), .int (t.room : Nat), u, v]) hpn
      have hzn := sn _ _ hz
      refine ⟨D, zs, _, rfl, rfl, hzn, small1000 (by omega), same_seqT_upd (s2.trans sn) hD hzn, ⟨zs ++ [.ref pn], upd_same, ?_⟩, _, _, _, _, _, _, rfl⟩
      rw [ev, if_pos ⟨m1, m2⟩]
      have tp := Tk.put (K := K) (o := .lst (zs ++ [.ref pn])) hzn
      exact TiesT.snoc (t := ⟨P.idxOf t.one, P.idxOf t.other, t.room, t.fst, t.snd⟩) ⟨pn, u, v, rfl, tp _ _ (SqT.of upd_same), (hu.tk (Tk.same sn)).tk tp, (hv.tk (Tk.same sn)).tk tp⟩ ((hzs.tk (Tk.same sn)).tk tp)
    rintro σ H2 ⟨s2, ⟨zs, hz, hzs⟩, z3, z4, z5, z6, z7, z8, rfl⟩
    rw [lus, List.take_length] at hzs
    have hP2 := s2.seq hP
    have ha2 := Same.seqT s2 ha
    have hw2 := Same.seqT s2 hw
    refine nx1_go ⟨_, rfl, pw, _, _, _, rfl, rfl, hw2, rfl, _, rfl, r, rfl, ⟨_, hP2⟩, fun D2 hD2 => lc_list (K := K) (a := r) (xs := intsV P) (fun i H' => Same H2 H' ∧ H' D2 = some (.lst (intsV ((viewS sz P).take i)))) ⟨same_new hD2, upd_same⟩ (fun i H' _ ⟨s, _⟩ => s.seq hP2) ?_ ?_⟩
    · rintro i x H3 hi ⟨s3, hD3⟩
      have hil := (List.getElem?_eq_some_iff.mp hi).1
      unfold intsV at hi
      rw [List.getElem?_map] at hi
      obtain ⟨p, hp, rfl⟩ := Option.map_eq_some_iff.mp hi
      have hps := pin p (List.mem_of_getElem? hp)
      refine ⟨rfl, tYes_of (iteT ⟨_, rfl, pw, _, _, _, rfl, rfl, Same.seqT s3 hw2, rfl, _, rfl, pa, intsV sz, _, _, rfl, rfl, Same.seqT s3 ha2, ints_at hps, _, hD3, by unfold intsV viewS; rw [List.length_map, List.length_take, List.length_map]; exact small1000 (by omega), same_seqT_upd s3 hD2 hD3, ?_⟩)⟩
      have e : (viewS sz P)[i]? = some (sz.getD p 0) := by
        unfold viewS
        rw [List.getElem?_map, hp]
        rfl
      rw [upd_same, List.take_add_one, e]
      unfold intsV
      rw [List.map_append]
      rfl
    rintro H3 ⟨s3, hD3⟩
    have lS : (intsV P).length = (viewS sz P).length := by
      unfold intsV viewS
      rw [List.length_map, List.length_map]
    rw [lS, List.take_length] at hD3
    refine ⟨D2, _, rfl, .inl ⟨SqL.of hD3, fun p1 hp1 => ?_⟩⟩
    have t1 := same_new (o := .tup (intsV (viewS sz P))) hp1
    have e1 : SqT K (upd H3 p1 (.tup (intsV (viewS sz P)))) p1 (intsV (viewS sz P)) := SqT.of upd_same
    refine ⟨_, rfl, D, zs, rfl, .inl ⟨SqL.of (t1 _ _ (s3 _ _ hz)), fun p2 hp2 => ?_⟩⟩
    have t2 := same_new (o := .tup zs) hp2
    refine ⟨(by show 3 ≤ sizeLine; decide), fun p3 hp3 => ?_⟩
    have t3 := same_new (o := .tup [.int f, .ref p1, .ref p2]) hp3
    have tA := (s3.trans t1).trans (t2.trans t3)
    exact q _ _ (s2.trans tA) ⟨p3, p1, p2, zs, rfl, SqT.of upd_same, Same.seqT (t2.trans t3) e1, Same.seqT t3 (SqT.of upd_same), hzs.tk (Tk.same tA)⟩
/-! ### lists of places, bent -/
theorem cutV_ints (P : List Int) (lo hi : Option Int) : ∃ m : List Int, cutV (P.map V.int) lo hi = m.map V.int ∧ m.length ≤ P.length := by
  unfold cutV
  rw [List.length_map, ← List.map_drop, ← List.map_take]
  refine ⟨_, rfl, ?_⟩
  rw [List.length_take, List.length_drop]
  omega
def spBentP (K : PySem.W.Frag) : Sp := fun vs H Q _ => ∃ (box l : Addr) (f : Int) (F : Fd f) (v : V) (sz : List Nat) (ts : List (Tie F.F)) (r : Addr) (P : List Nat), vs = [.ref box, v, .ref r] ∧ BoxAt H box l ∧ WebT K H F v sz ts ∧ WebOk F sz ts ∧ r ≠ box ∧ H r = some (.lst (intsV P)) ∧ ViewOk sz P ∧
  ∀ H' r' (P' : List Int), Stp box l H H' → r' ≠ box → H' r' = some (.lst (P'.map V.int)) → P'.length ≤ 20 → Q (.ref r') H'
theorem len__law_bent_places {K vs H Q E} (h : spBentP K vs H Q E) : vs.length = 3 := by
  obtain ⟨box, l, f, F, v, sz, ts, r, P, rfl, _⟩ := h
  rfl
theorem d__law_bent_places {P : Program} {w : World} {K : PySem.W.Frag} {mg : Str → Option Value} {base : Heap} (R : Raw K mg "_law_bent_places" s__law_bent_places) (B : Bn mg) (D__law_draw : Def P w K mg base "_law_draw" 1 ["_law_box", "_law_many"] (spDraw)) (D__law_any : Def P w K mg base "_law_any" 2 ["_law_box", "_law_some"] (spAny K)) : Def P w K mg base "_law_bent_places" 3 ["_law_box", "_law_web_here", "_law_places_here"] (spBentP K) := by
  obtain ⟨f, fd, F, m⟩ := R
  obtain ⟨f__law_draw, fd__law_draw, G__law_draw, m__law_draw, k__law_draw, b__law_draw⟩ := D__law_draw
  obtain ⟨f__law_any, fd__law_any, G__law_any, m__law_any, k__law_any, b__law_any⟩ := D__law_any
  refine ⟨f, fd, F.ok sc__law_bent_places (fun vs H Q E h => ?_) (fun cdv A outer s H vs Q E hr h => ?_), m, F.kp, F.binds (ps := ["_law_box", "_law_web_here", "_law_places_here"]) fun _ _ _ _ _ _ us hl => match us, hl with | [_, _, _], _ => rfl⟩
  · exact len__law_bent_places h

  · obtain ⟨box, l, f, F, v, sz, ts, r, P, rfl, hb, hW, ok, nr, hrr, hV, q⟩ := h
    refine ⟨_, (pss_cons (ps_set (i := 3) sc__law_bent_places.nd rfl (Or.inl rfl) (pe_call G__law_draw (hr.mono (by omega)) (by rfl) m__law_draw k__law_draw b__law_draw .nil pass0 (pa_cons (pv 0) (pa_cons pe_int pa_nil)))) (pss_cons (ps_if (pt_cmpR op_eq (pv 3) pe_int (nomark _)) (pss_one (ps_ret (pe_lst pa_nil))) pss_nil) (pss_cons (ps_if (pt_cmpR op_eq (pv 3) pe_int (nomark _)) (pss_one (ps_ret (pe_revL (pv 2)))) pss_nil) (pss_cons (ps_if (pt_cmpR op_eq (pv 3) pe_int (nomark _)) (pss_one (ps_ret (pe_op op_cat (pv 2) (pe_slice sl_list (pv 2) (po_some (pe_un un_neg pe_int)) po_none)))) pss_nil) (pss_cons (ps_if (pt_cmpR op_eq (pv 3) pe_int (nomark _)) (pss_one (ps_ret (pe_op op_cat (pv 2) (pe_lst (pa_cons (pe_call G__law_any (hr.mono (by omega)) (by rfl) m__law_any k__law_any b__law_any .nil pass0 (pa_cons (pv 0) (pa_cons (pe_lst (pa_cons (pe_callB call_len_seq (by rfl) B.len PySem.boot_len (pa_cons (pe_ix ix_tup (pv 1) pe_int (fun _ _ => rfl)) pa_nil)) (pa_cons (pe_op op_pow pe_int pe_int) pa_nil))) pa_nil))) pa_nil))))) pss_nil) (pss_one (ps_ret (pe_ifExp (pt_cmpR op_eq (pv 3) pe_int (nomark _)) (pe_op op_cat (pe_lst (pa_cons (pe_un un_neg pe_int) pa_nil)) (pv 2)) (pv 2))))))))), ?_⟩
    have p8 := hV.2.2.2
    refine ⟨_, rfl, box, l, _, rfl, hb, by decide, by decide +kernel, fun H1 d st1 d0 d1 => ?_⟩
    have hr1 := st1.keep _ _ nr hrr
    have hW1 := hW.tk (Tk.stp (K := K) hb st1)
    have hr1 : H1 r = some (.lst ((toI P).map V.int)) := by
      rw [toI_ints]
      exact hr1
    have lI : (toI P).length = P.length := List.length_map ..
    have lV : ((toI P).map V.int).length = P.length := by rw [List.length_map, lI]
    have fin : ∀ (p : Addr) (M : List Int) (H2 : Hp), Stp box l H H2 → H2 p = none → M.length ≤ 20 → Q (.ref p) (upd H2 p (.lst (M.map V.int))) := fun p M H2 st2 hp hM => q _ p M (st2.same (same_new hp)) (st2.box.ne hp) upd_same hM
    refine gName_go3 (nx_go3 ?_)
    refine ⟨_, rfl, rfl, _, rfl, ite2 (fun _ => ⟨(by show 0 ≤ sizeLine; decide), fun p hp => fin p [] H1 st1 hp (by decide)⟩) (fun _ => nx_go3 ?_)⟩
    refine ⟨_, rfl, rfl, _, rfl, ite2 (fun _ => ⟨_, rfl, r, _, rfl, SqL.of hr1, fun p hp => ?_⟩) (fun _ => nx_go3 ?_)⟩
    · rw [← List.map_reverse]
      exact fin p _ H1 st1 hp (by rw [List.length_reverse, lI]; omega)
    refine ⟨_, rfl, rfl, _, rfl, ite2 (fun _ => ?_) (fun _ => nx_go3 ?_)⟩
    · refine ⟨_, rfl, _, rfl, _, rfl, _, rfl, r, _, rfl, SqL.of hr1, fun p hp => ?_⟩
      obtain ⟨m, em, lm⟩ := cutV_ints (toI P) (some (-1)) none
      have sp := same_new (o := .lst (cutV ((toI P).map V.int) (some (-1)) none)) hp
      have ep : (upd H1 p (.lst (cutV ((toI P).map V.int) (some (-1)) none))) p = some (.lst (m.map V.int)) := by
        rw [← em]
        exact upd_same
      have hr2 := sp _ _ hr1
      have st2 := st1.same sp
      generalize upd H1 p (.lst (cutV ((toI P).map V.int) (some (-1)) none)) = H2 at *
      refine ⟨r, p, _, _, rfl, rfl, hr2, ep, by rw [lV, List.length_map]; exact Nat.le_of_lt (small1000 (by omega)), fun p2 hp2 => ?_⟩
      rw [← List.map_append]
      exact fin p2 _ H2 st2 hp2 (by rw [List.length_append]; omega)
    refine ⟨_, rfl, rfl, _, rfl, ite2 (fun _ => ?_) (fun _ => nx1_go ?_)⟩
    · obtain ⟨pw, pa, pb, us, rfl, hw, ha, hbt, hT⟩ := id hW1
      refine ⟨_, rfl, _, rfl, _, rfl, pw, _, _, _, rfl, rfl, hw, rfl, pa, _, rfl, .inr ha, _, _, rfl, rfl, cpow (by decide) (by decide) (by decide), (by show 2 ≤ sizeLine; decide), fun ql hql => ?_⟩
      have rl := same_new (o := .lst [V.int ((intsV sz).length : Nat), .int (10 ^ (20 : Int).toNat)]) hql
      have eql : (upd H1 ql (.lst [V.int ((intsV sz).length : Nat), .int (10 ^ (20 : Int).toNat)])) ql = some (.lst [V.int ((intsV sz).length : Nat), .int (10 ^ (20 : Int).toNat)]) := upd_same
      have nql := st1.box.ne hql
      have hr2 := rl _ _ hr1
      have st2 := st1.same rl
      generalize upd H1 ql (.lst [V.int ((intsV sz).length : Nat), .int (10 ^ (20 : Int).toNat)]) = H2 at *
      refine ⟨box, l, ql, _, rfl, st2.box, SqL.of eql, nql, (by simp), (by show 2 ≤ 1000; decide), fun H3 x st3 hx => ?_⟩
      have hr3 := st3.keep _ _ nr hr2
      have st13 := st2.trans st3
      obtain ⟨z, rfl⟩ : ∃ z : Int, x = V.int z := by
        rcases List.mem_cons.mp hx with rfl | hx
        · exact ⟨_, rfl⟩
        · rw [List.mem_singleton.mp hx]
          exact ⟨_, rfl⟩
      refine ⟨(by show 1 ≤ sizeLine; decide), fun p hp => ?_⟩
      have sp := same_new (o := .lst [V.int z]) hp
      refine ⟨r, p, _, _, rfl, rfl, sp _ _ hr3, upd_same, by rw [lV]; exact Nat.le_of_lt (small1000 (by show P.length + 1 ≤ 1000; omega)), fun p2 hp2 => ?_⟩
      rw [show (toI P).map V.int ++ [V.int z] = (toI P ++ [z]).map V.int by rw [List.map_append]; rfl]
      exact fin p2 _ _ (st13.same sp) hp2 (by rw [List.length_append]; show (toI P).length + 1 ≤ 20; omega)
    refine ⟨_, rfl, rfl, _, rfl, ite2 (fun _ => ?_) (fun _ => ?_)⟩
    · refine ⟨_, rfl, (by show 1 ≤ sizeLine; decide), fun p hp => ?_⟩
      have sp := same_new (o := .lst [V.int (-1)]) hp
      refine ⟨_, rfl, p, r, _, _, rfl, rfl, upd_same, sp _ _ hr1, by rw [lV]; exact Nat.le_of_lt (small1000 (by show 1 + P.length ≤ 1000; omega)), fun p2 hp2 => ?_⟩
      rw [show [V.int (-1)] ++ (toI P).map V.int = ([-1] ++ toI P).map V.int by rw [List.map_append]; rfl]
      exact fin p2 _ _ (st1.same sp) hp2 (by rw [List.length_append]; show 1 + (toI P).length ≤ 20; omega)
    · exact ⟨_, rfl, q _ r (toI P) st1 nr hr1 (by omega)⟩
/-! ### lists of places, judged -/
theorem eqv_intsI : ∀ P N : List Int, PyData.eqvAll (P.map PyData.int) (N.map PyData.int) = decide (P = N)
  | [], [] => rfl
  | [], n :: N => rfl
  | p :: P, [] => rfl
  | p :: P, n :: N => by
    show ((p == n) && PyData.eqvAll (P.map PyData.int) (N.map PyData.int)) = _
    rw [eqv_intsI P N]
    by_cases c : p = n
    · subst c
      by_cases d : P = N
      · subst d
        simp
      · rw [decide_eq_false d, Bool.and_false, decide_eq_false fun z => d (List.cons.inj z).2]
    · rw [show (p == n) = false from beq_eq_false_iff_ne.mpr c, Bool.false_and, decide_eq_false fun z => c (List.cons.inj z).1]
theorem lay_intsI (P : List Int) : LayN 1 (.list (P.map PyData.int)) := lay_list fun d hd => by
  obtain ⟨k, _, rfl⟩ := List.mem_map.mp hd
  exact lay_int _
theorem dp_intsI {K : PySem.W.Frag} {H : Hp} : ∀ P : List Int, DpAll K H (P.map V.int) (P.map PyData.int)
  | [] => .nil
  | _ :: P => .cons (.int _) (dp_intsI P)
theorem pw_uniq : ∀ {P N : List Int}, P.Pairwise (· < ·) → N.Pairwise (· < ·) → (∀ x, x ∈ P ↔ x ∈ N) → P = N
  | [], [], _, _, _ => rfl
  | [], n :: N, _, _, h => by
    have := (h n).mpr (List.mem_cons_self ..)
    cases this
  | p :: P, [], _, _, h => by
    have := (h p).mp (List.mem_cons_self ..)
    cases this
  | p :: P, n :: N, h1, h2, h => by
    obtain ⟨a1, a2⟩ := List.pairwise_cons.mp h1
    obtain ⟨b1, b2⟩ := List.pairwise_cons.mp h2
    have e : p = n := by
      rcases List.mem_cons.mp ((h p).mp (List.mem_cons_self ..)) with z | z
      · exact z
      · have := b1 p z
        rcases List.mem_cons.mp ((h n).mpr (List.mem_cons_self ..)) with y | y
        · exact y.symm
        · have := a1 n y
          omega
    subst e
    rw [pw_uniq a2 b2 fun x => ⟨fun hx => ?_, fun hx => ?_⟩]
    · have := a1 x hx
      rcases List.mem_cons.mp ((h x).mp (List.mem_cons_of_mem _ hx)) with z | z
      · omega
      · exact z
    · have := b1 x hx
      rcases List.mem_cons.mp ((h x).mpr (List.mem_cons_of_mem _ hx)) with z | z
      · omega
      · exact z
def spGoodV (K : PySem.W.Frag) : Sp := fun vs H Q _ => ∃ (f : Int) (F : Fd f) (v : V) (sz : List Nat) (ts : List (Tie F.F)) (r : Addr) (P : List Int), vs = [v, .ref r] ∧ WebT K H F v sz ts ∧ SqL K H r (P.map V.int) ∧ P.length ≤ 60 ∧ ∀ H', Same H H' → Q (.bl (goodV sz P)) H'
theorem len__law_good_view {K vs H Q E} (h : spGoodV K vs H Q E) : vs.length = 2 := by
  obtain ⟨f, F, v, sz, ts, r, P, rfl, _⟩ := h
  rfl
theorem d__law_good_view {P : Program} {w : World} {K : PySem.W.Frag} {mg : Str → Option Value} {base : Heap} (R : Raw K mg "_law_good_view" s__law_good_view) (B : Bn mg)  : Def P w K mg base "_law_good_view" 1 ["_law_web_here", "_law_places_here"] (spGoodV K) := by
  obtain ⟨f, fd, F, m⟩ := R
  refine ⟨f, fd, F.ok sc__law_good_view (fun vs H Q E h => ?_) (fun cdv A outer s H vs Q E hr h => ?_), m, F.kp, F.binds (ps := ["_law_web_here", "_law_places_here"]) fun _ _ _ _ _ _ us hl => match us, hl with | [_, _], _ => rfl⟩
  · exact len__law_good_view h

  · obtain ⟨f, F, v, sz, ts, r, P, rfl, hW, hP, l60, q⟩ := h
    refine ⟨_, (pss_cons (ps_if (PW.pt (pw_or (pt_cmpR (op_eqD hr.units) (pv 1) (pe_lst pa_nil) (nomark _)) (pw_or1 (pt_not (pt_val (pe_callB (cr_all rfl) (by rfl) B.all (by decide +kernel) (pa_cons (pe_lc (own := [("_law_place", 2)]) (g := gName 2) (tt := tYes) rfl sc__law_good_view.nd (pi_list (pv 1)) (blkOk_by (N := ["_law_web_here", "_law_places_here", "_law_place"]) (sc := defScope s__law_good_view) (by decide +kernel)) (fun _ _ _ _ _ => pg_name (i := 2) sc__law_good_view.nd rfl (Or.inl rfl)) (fun _ _ _ _ _ => pts_nil) (fun _ _ _ _ _ => (pe_chain op_le op_lt pe_int (pv 2) (pe_callB (show CallR _ _ (rLen K) from cr_len) (by rfl) B.len PySem.boot_len (pa_cons (pe_ix (show IxR _ (rIxT K) from ix_tup) (pv 0) pe_int (fun _ _ => rfl)) pa_nil))))) pa_nil))))))) (pss_one (ps_ret pe_bl)) pss_nil) (pss_one (ps_ret (pe_cmpR (op_eqD hr.units) (pv 1) (pe_callB (cr_sortedSet rfl) (by rfl) B.sorted (by decide +kernel) (pa_cons (pe_callTy (SetLi.cr_setLi rfl) (by rfl) B.set (by decide +kernel) (pa_cons (pv 1) pa_nil)) pa_nil)) (nomark _))))), ?_⟩
    obtain ⟨pw, pa, pb, us, rfl, hw, ha, hb, hT⟩ := id hW
    have li : (intsV sz).length = sz.length := List.length_map ..
    have lP : (P.map V.int).length = P.length := List.length_map ..
    refine ⟨_, rfl, (by show 0 ≤ sizeLine; decide), fun pz hz => ?_⟩
    have sz' := same_new (o := .lst []) hz
    refine ⟨.list (P.map PyData.int), .list [], .lst (sz'.seq hP) (dp_intsI P), .lst (SqL.of upd_same) .nil, (lay_intsI P).shaped (by decide), by decide, ?_⟩
    rw [show PyData.eqv (.list (P.map PyData.int)) (.list []) = decide (P = []) from eqv_intsI P []]
    have hP1 := sz'.seq hP
    have hw1 := Same.seqT sz' hw
    have ha1 := Same.seqT sz' ha
    generalize upd H pz (.lst []) = H1 at *
    by_cases c : P = []
    · rw [decide_eq_true c]
      refine ⟨_, rfl, iteT ?_⟩
      have := q _ sz'
      unfold goodV at this
      rw [c] at this
      exact this
    rw [decide_eq_false c]
    have c0 : P.isEmpty = false := by
      cases P with
      | nil => exact absurd rfl c
      | cons a P => rfl
    refine ⟨_, rfl, iteF ?_⟩
    refine ⟨_, rfl, r, rfl, ⟨_, hP1⟩, fun D2 hD2 => lc_list (K := K) (a := r) (xs := P.map V.int) (fun i H' => Same H1 H' ∧ H' D2 = some (.lst (((P.take i).map (insB sz.length)).map V.bl))) ⟨same_new hD2, upd_same⟩ (fun i H' _ ⟨s, _⟩ => s.seq hP1) ?_ ?_⟩
    · rintro i x H3 hi ⟨s3, hD3⟩
      rw [List.getElem?_map] at hi
      obtain ⟨p, hp, rfl⟩ := Option.map_eq_some_iff.mp hi
      have hil := (List.getElem?_eq_some_iff.mp hp).1
      have fin : ∀ b, b = insB sz.length p → ∃ acc, H3 D2 = some (.lst acc) ∧ acc.length < sizeLine ∧ Same H1 (upd H3 D2 (.lst (acc ++ [V.bl b]))) ∧ upd H3 D2 (.lst (acc ++ [V.bl b])) D2 = some (.lst (((P.take (i + 1)).map (insB sz.length)).map V.bl)) := fun b hb => by
        refine ⟨_, hD3, by rw [List.length_map, List.length_map, List.length_take]; exact small1000 (by omega), same_seqT_upd s3 hD2 hD3, ?_⟩
        rw [upd_same, List.take_add_one, hp, List.map_append, List.map_append, hb]
        rfl
      refine ⟨rfl, tYes_of (iteT ?_)⟩
      refine ⟨_, rfl, _, _, rfl, rfl, _, rfl, ite2 (fun e1 => ?_) (fun e1 => ?_)⟩
      · have e1 := of_decide_eq_true e1
        refine ⟨_, rfl, pw, _, _, _, rfl, rfl, Same.seqT s3 hw1, rfl, pa, _, rfl, .inr (Same.seqT s3 ha1), _, _, rfl, rfl, fin _ ?_⟩
        unfold insB
        rw [li]
        by_cases d : p < (sz.length : Int)
        · rw [decide_eq_true d, decide_eq_true ⟨e1, d⟩]
        · rw [decide_eq_false d, decide_eq_false fun z => d z.2]
      · refine fin _ ?_
        unfold insB
        rw [decide_eq_false fun z => e1 (decide_eq_true z.1)]
    rintro H3 ⟨s3, hD3⟩
    rw [lP, List.take_length] at hD3
    refine ⟨D2, P.map (insB sz.length), rfl, SqL.of hD3, ?_⟩
    have e : (P.map (insB sz.length)).all id = P.all (insB sz.length) := by
      rw [List.all_map]
      rfl
    rw [e]
    have s13 := sz'.trans s3
    unfold goodV at q
    rw [c0] at q
    cases h2 : P.all (insB sz.length) with
    | false =>
      rw [h2, Bool.and_false] at q
      exact ⟨_, rfl, iteT (q _ s13)⟩
    | true =>
      rw [h2, Bool.and_true] at q
      refine ⟨_, rfl, iteF (nx1_go ?_)⟩
      have hP3 := s3.seq hP1
      refine ⟨_, rfl, _, rfl, r, P, rfl, hP3, by omega, fun p c hp hc => ?_⟩
      refine ⟨p, _, c, rfl, upd_same, by omega, fun ns pl hpw hmem hlen hpl => ?_⟩
      have e2 : ∀ k : Int, k ∈ ns ↔ k ∈ P := fun k => by rw [hmem k, decide_eq_true_iff]
      have sp := same_new (o := SetO w p (fun k => decide (k ∈ P)) c) hp
      have sl := same_new (o := .lst (ns.map V.int)) hpl
      have spl := sp.trans sl
      have ln : ns.length ≤ 1000 := by omega
      have q := q _ (s13.trans spl)
      refine ⟨.list (P.map PyData.int), .list (ns.map PyData.int), .lst (spl.seq hP3) (dp_intsI P), .lst (SqL.of upd_same) (dp_intsI ns), (lay_intsI P).shaped (by decide), (lay_intsI ns).shaped (by decide), ?_⟩
      rw [show PyData.eqv (.list (P.map PyData.int)) (.list (ns.map PyData.int)) = decide (P = ns) from eqv_intsI P ns]
      have e : decide (P = ns) = (riseL P).all id := by
        cases hr2 : (riseL P).all id with
        | true => exact decide_eq_true (pw_uniq (rise_pw hr2) hpw fun x => (e2 x).symm)
        | false =>
          refine decide_eq_false fun z => ?_
          rw [z, pw_rise hpw] at hr2
          cases hr2
      rw [e]
      exact q
/-! ### both ends of ties -/
def EndsT {α : Type} (K : PySem.W.Frag) (H : Hp) (xs : List V) (ts : List (Tie α)) : Prop := Paired (fun v (t : Tie α) => ∃ p : Addr, v = .ref p ∧ SqT K H p [.int (t.one : Nat), .int (t.other : Nat)]) xs ts
theorem EndsT.tk {α : Type} {K : PySem.W.Frag} {H H' : Hp} (t : Tk K H H') : ∀ {xs : List V} {ts : List (Tie α)}, EndsT K H xs ts → EndsT K H' xs ts
  | _, _, .nil => .nil
  | _, _, .cons ⟨p, e, h⟩ r => .cons ⟨p, e, t _ _ h⟩ (EndsT.tk t r)
theorem EndsT.len {α : Type} {K : PySem.W.Frag} {H : Hp} {xs : List V} {ts : List (Tie α)} (h : EndsT K H xs ts) : xs.length = ts.length := Paired.length h
theorem EndsT.pick {α : Type} {K : PySem.W.Frag} {H : Hp} : ∀ {xs : List V} {ts : List (Tie α)} {i : Nat} {x : V}, EndsT K H xs ts → xs[i]? = some x → ∃ t, ts[i]? = some t ∧ ∃ p : Addr, x = .ref p ∧ SqT K H p [.int (t.one : Nat), .int (t.other : Nat)]
  | _, _, i, x, .nil, e => by simp at e
  | _, _, 0, x, .cons h r, e => by
    have e := Option.some.inj ((List.getElem?_cons_zero ..).symm.trans e)
    subst e
    exact ⟨_, rfl, h⟩
  | _, _, i + 1, x, .cons h r, e => by
    obtain ⟨u, h1, h2⟩ := EndsT.pick (i := i) (x := x) r (by simpa using e)
    exact ⟨u, by simpa using h1, h2⟩
theorem EndsT.snoc {α : Type} {K : PySem.W.Frag} {H : Hp} {v : V} {t : Tie α} (h : ∃ p : Addr, v = .ref p ∧ SqT K H p [.int (t.one : Nat), .int (t.other : Nat)]) : ∀ {xs : List V} {ts : List (Tie α)}, EndsT K H xs ts → EndsT K H (xs ++ [v]) (ts ++ [t])
  | _, _, .nil => .cons h .nil
  | _, _, .cons g r => .cons g (EndsT.snoc h r)
def spLCovers (K : PySem.W.Frag) : Sp := fun vs H Q _ => ∃ (f : Int) (F : Fd f) (v : V) (sz : List Nat) (ts : List (Tie F.F)) (a b : Addr) (LA LB : List Nat), vs = [v, .ref a, .ref b] ∧ WebT K H F v sz ts ∧ sz.length ≤ 100 ∧ ts.length ≤ 100 ∧ SqL K H a (intsV LA) ∧ SqL K H b (intsV LB) ∧ ∀ H', Same H H' → Q (.bl (covB sz.length ts LA LB)) H'
theorem len__law_covers {K vs H Q E} (h : spLCovers K vs H Q E) : vs.length = 3 := by
  obtain ⟨f, F, v, sz, ts, a, b, LA, LB, rfl, _⟩ := h
  rfl
theorem d__law_covers {P : Program} {w : World} {K : PySem.W.Frag} {mg : Str → Option Value} {base : Heap} (R : Raw K mg "_law_covers" s__law_covers) (B : Bn mg)  : Def P w K mg base "_law_covers" 1 ["_law_web_here", "_law_one", "_law_other"] (spLCovers K) := by
  obtain ⟨f, fd, F, m⟩ := R
  refine ⟨f, fd, F.ok sc__law_covers (fun vs H Q E h => ?_) (fun cdv A outer s H vs Q E hr h => ?_), m, F.kp, F.binds (ps := ["_law_web_here", "_law_one", "_law_other"]) fun _ _ _ _ _ _ us hl => match us, hl with | [_, _, _], _ => rfl⟩
  · exact len__law_covers h

  · obtain ⟨f, F, v, sz, ts, a, b, LA, LB, rfl, hW, l1, l2, hA, hB, q⟩ := h
    refine ⟨_, (pss_cons (ps_if (pt_not (pt_val (pe_callB (cr_all rfl) (by rfl) B.all (by decide +kernel) (pa_cons (pe_lc (own := [("_law_place", 3)]) (g := gName 3) (tt := tYes) rfl sc__law_covers.nd (pi_range1 (by rfl) B.range (pa_cons (pe_callB call_len_seq (by rfl) B.len PySem.boot_len (pa_cons (pe_ix ix_tup (pv 0) pe_int (fun _ _ => rfl)) pa_nil)) pa_nil)) (blkOk_by (N := ["_law_web_here", "_law_one", "_law_other", "_law_place", "_law_tie", "_law_both_ends", "_law_a", "_law_b"]) (sc := defScope s__law_covers) (by decide +kernel)) (fun _ _ _ _ _ => pg_name (i := 3) sc__law_covers.nd rfl (Or.inl rfl)) (fun _ _ _ _ _ => pts_nil) (fun _ _ _ _ _ => (pe_or (pe_cmpR (show OpR _ _ (rIn K false) from op_in_seq) (pv 3) (pv 1) (by rfl)) (pe_one (pe_cmpR (show OpR _ _ (rIn K false) from op_in_seq) (pv 3) (pv 2) (by rfl)))))) pa_nil)))) (pss_one (ps_ret pe_bl)) pss_nil) (pss_cons (ps_setLc (i := 5) (own := [("_law_tie", 4)]) (g := gName 4) (tt := tYes) rfl sc__law_covers.nd rfl rfl (sw_true rfl rfl rfl (by decide +kernel)) (pi_tup (pe_ix ix_tup (pv 0) pe_int (fun _ _ => rfl))) (blkOk_by (N := ["_law_web_here", "_law_one", "_law_other", "_law_place", "_law_tie", "_law_both_ends", "_law_a", "_law_b"]) (sc := defScope s__law_covers) (by decide +kernel)) (fun _ _ _ _ _ => pg_name (i := 4) sc__law_covers.nd rfl (Or.inl rfl)) (fun _ _ _ _ _ => pts_nil) (fun _ _ _ _ _ => (pe_slice (show SlR _ (rSlT K) from sl_tup) (pv 4) po_none (po_some pe_int)))) (pss_one (ps_ret (pe_callB (cr_all rfl) (by rfl) B.all (by decide +kernel) (pa_cons (pe_lc (own := [("_law_a", 6), ("_law_b", 7)]) (g := gTup K 2 (gCons (gName 6) (gCons (gName 7) gNil))) (tt := tYes) rfl sc__law_covers.nd (pi_list (pv 5)) (blkOk_by (N := ["_law_web_here", "_law_one", "_law_other", "_law_place", "_law_tie", "_law_both_ends", "_law_a", "_law_b"]) (sc := defScope s__law_covers) (by decide +kernel)) (fun _ _ _ _ _ => pg_tup rfl (pgs_cons (pg_name (i := 6) sc__law_covers.nd rfl (Or.inl rfl)) (pgs_cons (pg_name (i := 7) sc__law_covers.nd rfl (Or.inl rfl)) pgs_nil))) (fun _ _ _ _ _ => pts_nil) (fun _ _ _ _ _ => (pe_or (pe_and (pe_cmpR (show OpR _ _ (rIn K false) from op_in_seq) (pv 6) (pv 1) (by rfl)) (pe_one (pe_cmpR (show OpR _ _ (rIn K false) from op_in_seq) (pv 7) (pv 1) (by rfl)))) (pe_one (pe_and (pe_cmpR (show OpR _ _ (rIn K false) from op_in_seq) (pv 6) (pv 2) (by rfl)) (pe_one (pe_cmpR (show OpR _ _ (rIn K false) from op_in_seq) (pv 7) (pv 2) (by rfl)))))))) pa_nil)))))), ?_⟩
    obtain ⟨pw, pa, pb, us, rfl, hw, ha, hb, hT⟩ := id hW
    have li : (intsV sz).length = sz.length := List.length_map ..
    have lus := hT.len
    refine ⟨_, rfl, pw, _, _, _, rfl, rfl, hw, rfl, pa, _, rfl, .inr ha, _, rfl, by omega, by omega, fun D hD => ?_⟩
    refine lc_range (lo := 0) (n := (((intsV sz).length : Nat) : Int).toNat) (fun i H' => Same H H' ∧ H' D = some (.lst (((List.range i).map fun p => decide (p ∈ LA) || decide (p ∈ LB)).map V.bl))) ⟨same_new hD, upd_same⟩ ?_ ?_
    · rintro i H2 hi ⟨s2, hD2⟩
      have e0 : (0 : Int) + (i : Int) = ((i : Nat) : Int) := Int.zero_add _
      rw [e0]
      have fin : ∀ c, c = (decide (i ∈ LA) || decide (i ∈ LB)) → ∃ acc, H2 D = some (.lst acc) ∧ acc.length < sizeLine ∧ Same H (upd H2 D (.lst (acc ++ [V.bl c]))) ∧ upd H2 D (.lst (acc ++ [V.bl c])) D = some (.lst (((List.range (i + 1)).map fun p => decide (p ∈ LA) || decide (p ∈ LB)).map V.bl)) := fun c hc => by
        refine ⟨_, hD2, by rw [List.length_map, List.length_map, List.length_range]; exact small1000 (by omega), same_seqT_upd s2 hD hD2, ?_⟩
        rw [upd_same, List.range_succ, List.map_append, List.map_append, hc]
        rfl
      exact ⟨rfl, tYes_of (iteT (gB_or (fun Q q => ⟨_, rfl, _, rfl, in_list (s2.seq hA) q⟩) (fun Q q => ⟨_, rfl, _, rfl, in_list (s2.seq hB) q⟩) _ (fin _ rfl)))⟩
    rintro H2 ⟨s2, hD2⟩
    have hA2 := s2.seq hA
    have hB2 := s2.seq hB
    have hw2 := Same.seqT s2 hw
    have hb2 := Same.seqT s2 hb
    have hT2 := hT.tk (Tk.same (K := K) s2)
    refine ⟨D, (List.range ((((intsV sz).length : Nat) : Int).toNat)).map fun p => decide (p ∈ LA) || decide (p ∈ LB), rfl, SqL.of hD2, ?_⟩
    have e : ((List.range ((((intsV sz).length : Nat) : Int).toNat)).map fun p => decide (p ∈ LA) || decide (p ∈ LB)).all id = (List.range sz.length).all fun p => decide (p ∈ LA) || decide (p ∈ LB) := by
      rw [List.all_map, Int.toNat_natCast, li]
      rfl
    rw [e]
    unfold covB at q
    cases h1 : (List.range sz.length).all fun p => decide (p ∈ LA) || decide (p ∈ LB) with
    | false =>
      rw [h1] at q
      exact ⟨_, rfl, iteT (q _ s2)⟩
    | true =>
      rw [h1, Bool.true_and] at q
      refine ⟨_, rfl, iteF (nx_go3 ?_)⟩
      refine ⟨_, rfl, pw, _, _, _, rfl, rfl, hw2, rfl, pb, rfl, ⟨_, hb2⟩, fun D1 hD1 => lc_tup (K := K) (a := pb) (xs := us) (fun i H' => Same H2 H' ∧ ∃ zs, H' D1 = some (.lst zs) ∧ EndsT K H' zs (ts.take i)) ⟨same_new hD1, [], upd_same, .nil⟩ (fun i H' _ ⟨s, _⟩ => Same.seqT s hb2) ?_ ?_⟩
      · rintro i x H3 hi ⟨s3, zs, hz, hzs⟩
        have hil := (List.getElem?_eq_some_iff.mp hi).1
        obtain ⟨t, et, ht⟩ := hT2.pickV hi
        obtain ⟨pt, u, v, rfl, hpt, hu, hv⟩ := ht.tk (Tk.same s3)
        refine ⟨rfl, tYes_of (iteT ⟨_, rfl, _, rfl, ?_⟩)⟩
        refine ⟨pt, _, rfl, hpt, (fun z => absurd z.2 (by show ¬ (HT.sIx 5 5 (some 2) = 5); decide)), fun p hp => ?_⟩
        have sp := same_new (o := .tup (cutV [V.int (t.one : Nat), .int (t.other : Nat), .int (t.room : Nat), u, v] none (some 2))) hp
        have hz4 := sp _ _ hz
        have lz := hzs.len
        rw [List.length_take] at lz
        refine ⟨zs, hz4, small1000 (by omega), same_seqT_upd (s3.trans sp) hD1 hz4, zs ++ [.ref p], upd_same, ?_⟩
        rw [List.take_add_one, et]
        have tp := Tk.put (K := K) (o := .lst (zs ++ [.ref p])) hz4
        exact EndsT.snoc ⟨p, rfl, tp _ _ (SqT.of upd_same)⟩ ((hzs.tk (Tk.same sp)).tk tp)
      rintro H3 ⟨s3, zs, hz, hzs⟩
      rw [lus, List.take_length] at hzs
      have lz := hzs.len
      have hA3 := s3.seq hA2
      have hB3 := s3.seq hB2
      refine gName_go3 (nx1_go ?_)
      refine ⟨_, rfl, D1, rfl, ⟨_, SqL.of hz⟩, fun D2 hD2' => lc_list (K := K) (a := D1) (xs := zs) (fun i H' => Same H3 H' ∧ H' D2 = some (.lst (((ts.take i).map fun t => (decide (t.one ∈ LA) && decide (t.other ∈ LA)) || (decide (t.one ∈ LB) && decide (t.other ∈ LB))).map V.bl))) ⟨same_new hD2', upd_same⟩ (fun i H' _ ⟨s, _⟩ => s.seq (SqL.of hz)) ?_ ?_⟩
      · rintro i x H4 hi ⟨s4, hD4⟩
        have hil := (List.getElem?_eq_some_iff.mp hi).1
        obtain ⟨t, et, p, rfl, hp⟩ := (hzs.tk (Tk.same s4)).pick hi
        have hA4 := s4.seq hA3
        have hB4 := s4.seq hB3
        have fin : ∀ c, c = ((decide (t.one ∈ LA) && decide (t.other ∈ LA)) || (decide (t.one ∈ LB) && decide (t.other ∈ LB))) → ∃ acc, H4 D2 = some (.lst acc) ∧ acc.length < sizeLine ∧ Same H3 (upd H4 D2 (.lst (acc ++ [V.bl c]))) ∧ upd H4 D2 (.lst (acc ++ [V.bl c])) D2 = some (.lst (((ts.take (i + 1)).map fun t => (decide (t.one ∈ LA) && decide (t.other ∈ LA)) || (decide (t.one ∈ LB) && decide (t.other ∈ LB))).map V.bl)) := fun c hc => by
          refine ⟨_, hD4, by rw [List.length_map, List.length_map, List.length_take]; exact small1000 (by omega), same_seqT_upd s4 hD2' hD4, ?_⟩
          rw [upd_same, List.take_add_one, et, List.map_append, List.map_append, hc]
          rfl
        refine ⟨p, _, rfl, hp, rfl, _, _, rfl, _, _, rfl, rfl, rfl, tYes_of (iteT (gB_or (gB_and (fun Q q => ⟨_, rfl, _, rfl, in_list hA4 q⟩) (fun Q q => ⟨_, rfl, _, rfl, in_list hA4 q⟩)) (gB_and (fun Q q => ⟨_, rfl, _, rfl, in_list hB4 q⟩) (fun Q q => ⟨_, rfl, _, rfl, in_list hB4 q⟩)) _ (fin _ rfl)))⟩
      rintro H4 ⟨s4, hD4⟩
      rw [lz, List.take_length] at hD4
      refine ⟨D2, ts.map fun t => (decide (t.one ∈ LA) && decide (t.other ∈ LA)) || (decide (t.one ∈ LB) && decide (t.other ∈ LB)), rfl, SqL.of hD4, ?_⟩
      rw [List.all_map]
      exact q _ ((s2.trans s3).trans s4)
/-! ### covers, drawn -/
theorem sorted_nat {ns : List Int} {M : List Nat} {n : Nat} (h1 : ns.Pairwise (· < ·)) (h2 : ∀ k : Int, k ∈ ns ↔ k ∈ toI M) (h3 : ∀ m ∈ M, m < n) : ∃ N : List Nat, ns = toI N ∧ N.Pairwise (· < ·) ∧ (∀ p ∈ N, p < n) ∧ ∀ m ∈ M, m ∈ N := by
  have hin : ∀ k ∈ ns, ∃ m ∈ M, k = ((m : Nat) : Int) := fun k hk => by
    obtain ⟨m, hm, rfl⟩ := List.mem_map.mp ((h2 k).mp hk)
    exact ⟨m, hm, rfl⟩
  have e : toI (ns.map Int.toNat) = ns := by
    unfold toI
    rw [List.map_map]
    refine (List.map_congr_left fun p hp => ?_).trans (List.map_id _)
    obtain ⟨m, _, rfl⟩ := hin p hp
    rfl
  refine ⟨ns.map Int.toNat, e.symm, List.pairwise_map.mpr (h1.imp_of_mem fun {a b} ha hb hab => ?_), fun p hp => ?_, fun m hm => ?_⟩
  · obtain ⟨x, _, rfl⟩ := hin a ha
    obtain ⟨y, _, rfl⟩ := hin b hb
    omega
  · obtain ⟨k, hk, rfl⟩ := List.mem_map.mp hp
    obtain ⟨x, hx, rfl⟩ := hin k hk
    have := h3 x hx
    omega
  · have := (h2 ((m : Nat) : Int)).mpr (List.mem_map_of_mem (f := fun p : Nat => (p : Int)) hm)
    exact List.mem_map.mpr ⟨_, this, rfl⟩
structure UpB (n : Nat) (P : List Nat) : Prop where
  up : P.Pairwise (· < ·)
  lt : ∀ p ∈ P, p < n
theorem UpB.len {n : Nat} {P : List Nat} (h : UpB n P) : P.length ≤ n := by
  have := up_small (a := 0) (b := n) h.up fun x hx => ⟨Nat.zero_le _, h.lt x hx⟩
  omega
theorem toI_app (P N : List Nat) : toI (P ++ N) = toI P ++ toI N := List.map_append ..
theorem intsV_app (P N : List Nat) : intsV P ++ intsV N = intsV (P ++ N) := (List.map_append ..).symm
theorem notin_list {K : PySem.W.Frag} {H : Hp} {a : Addr} {A : List Nat} {n : Nat} {Q : VK} (h : SqL K H a (intsV A)) (q : Q (.bl (!decide (n ∈ A))) H) : rIn K true (.int (n : Nat)) (.ref a) H Q := by
  refine ⟨a, intsV A, rfl, .inl h, rfl, flat_intsV A, ?_⟩
  show Q (.bl (!inV (.int (n : Nat)) (intsV A))) H
  rw [inV_intsV]
  exact q
theorem set_facts {w : World} {H : Hp} {s r : Addr} {c : Nat} {ns : List Int} {M : List Nat} {n : Nat} (hM : ∀ m ∈ M, m < n) (hs : H s = none) (hpw : ns.Pairwise (· < ·)) (hmem : ∀ k : Int, k ∈ ns ↔ decide (k ∈ toI M) = true) (hr : (upd H s (SetO w s (fun k => decide (k ∈ toI M)) c)) r = none) :
    ∃ N, Same H (upd (upd H s (SetO w s (fun k => decide (k ∈ toI M)) c)) r (.lst (ns.map V.int))) ∧ H r = none ∧ (upd (upd H s (SetO w s (fun k => decide (k ∈ toI M)) c)) r (.lst (ns.map V.int))) r = some (.lst (intsV N)) ∧ UpB n N ∧ ∀ m ∈ M, m ∈ N := by
  have e2 : ∀ k : Int, k ∈ ns ↔ k ∈ toI M := fun k => by rw [hmem k, decide_eq_true_iff]
  obtain ⟨N, rfl, h1, h2, h3⟩ := sorted_nat hpw e2 hM
  have sp := same_new (o := SetO w s (fun k => decide (k ∈ toI M)) c) hs
  refine ⟨N, sp.trans (same_new hr), sp.free hr, ?_, ⟨h1, h2⟩, h3⟩
  rw [upd_same, toI_ints]
theorem tt_mid {t : TT} {σ : L2.St} {H : Hp} {Q : Bool → Hp → Prop} (M : Bool → Hp → Prop) (h : ∀ b H', M b H' → Q b H') (k : (∀ b H', M b H' → Q b H') → t σ H Q) : t σ H Q := k h
def GivesT (t : TT) (σ : L2.St) (H : Hp) (b : Bool) : Prop := ∀ Q : Bool → Hp → Prop, Q b H → t σ H Q
theorem gT_test {te : TE} {σ : L2.St} {H : Hp} {b : Bool} (h : GivesB te σ H b) : GivesT (tTest te) σ H b := fun Q q => h _ ⟨b, rfl, q⟩
theorem gT_and {t u : TT} {σ : L2.St} {H : Hp} {x y : Bool} (ha : GivesT t σ H x) (hb : GivesT u σ H y) : GivesT (tAnd t u) σ H (x && y) := fun Q q => ha _ (by
  cases x with
  | false => exact q
  | true => exact hb Q q)
theorem gT_or {t u : TT} {σ : L2.St} {H : Hp} {x y : Bool} (ha : GivesT t σ H x) (hb : GivesT u σ H y) : GivesT (tOr t u) σ H (x || y) := fun Q q => ha _ (by
  cases x with
  | false => exact hb Q q
  | true => exact q)
theorem gT_not {t : TT} {σ : L2.St} {H : Hp} {x : Bool} (ha : GivesT t σ H x) : GivesT (tNot t) σ H (!x) := fun Q q => ha _ q
def spLCover (K : PySem.W.Frag) : Sp := fun vs H Q _ => ∃ (box l : Addr) (f : Int) (F : Fd f) (v : V) (sz : List Nat) (ts : List (Tie F.F)), vs = [.ref box, v] ∧ BoxAt H box l ∧ WebT K H F v sz ts ∧ WebOk F sz ts ∧
  ∀ H' p a b LA LB, Stp box l H H' → SqT K H' p [.ref a, .ref b] → a ≠ box → b ≠ box → H' a = some (.lst (intsV LA)) → H' b = some (.lst (intsV LB)) → ViewOk sz LA → ViewOk sz LB → Q (.ref p) H'
theorem len__law_cover {K vs H Q E} (h : spLCover K vs H Q E) : vs.length = 2 := by
  obtain ⟨box, l, f, F, v, sz, ts, rfl, _⟩ := h
  rfl
theorem d__law_cover {P : Program} {w : World} {K : PySem.W.Frag} {mg : Str → Option Value} {base : Heap} (R : Raw K mg "_law_cover" s__law_cover) (B : Bn mg) (D__law_places : Def P w K mg base "_law_places" 2 ["_law_box", "_law_web_here"] (spLPlaces K)) (D__law_draw : Def P w K mg base "_law_draw" 1 ["_law_box", "_law_many"] (spDraw)) : Def P w K mg base "_law_cover" 3 ["_law_box", "_law_web_here"] (spLCover K) := by
  obtain ⟨f, fd, F, m⟩ := R
  obtain ⟨f__law_places, fd__law_places, G__law_places, m__law_places, k__law_places, b__law_places⟩ := D__law_places
  obtain ⟨f__law_draw, fd__law_draw, G__law_draw, m__law_draw, k__law_draw, b__law_draw⟩ := D__law_draw
  refine ⟨f, fd, F.ok sc__law_cover (fun vs H Q E h => ?_) (fun cdv A outer s H vs Q E hr h => ?_), m, F.kp, F.binds (ps := ["_law_box", "_law_web_here"]) fun _ _ _ _ _ _ us hl => match us, hl with | [_, _], _ => rfl⟩
  · exact len__law_cover h

  · obtain ⟨box, l, f, F, v, sz, ts, rfl, hb, hW, ok, q⟩ := h
    refine ⟨_, (pss_cons (ps_set (i := 2) sc__law_cover.nd rfl (Or.inr rfl) (pe_call G__law_places (hr.mono (by omega)) (by rfl) m__law_places k__law_places b__law_places .nil pass0 (pa_cons (pv 0) (pa_cons (pv 1) pa_nil)))) (pss_cons (ps_setLc (i := 4) (own := [("_law_place", 3)]) (g := gName 3) rfl sc__law_cover.nd rfl rfl (sw_true rfl rfl rfl (by decide +kernel)) (pi_range1 (by rfl) B.range (pa_cons (pe_callB call_len_seq (by rfl) B.len PySem.boot_len (pa_cons (pe_ix ix_tup (pv 1) pe_int (fun _ _ => rfl)) pa_nil)) pa_nil)) (blkOk_by (N := ["_law_box", "_law_web_here", "_law_one", "_law_place", "_law_other", "_law_tie", "_law_low", "_law_high"]) (sc := defScope s__law_cover) (by decide +kernel)) (fun _ _ _ _ _ => pg_name (i := 3) sc__law_cover.nd rfl (Or.inl rfl)) (fun _ _ _ _ _ => pts_one (pt_cmpR (show OpR _ _ (rIn K true) from op_notIn_seq) (pv 3) (pv 2) (by rfl))) (fun _ _ _ _ _ => (pv 3))) (pss_cons (ps_for PassesOwn.never rfl (pi_list (pe_lc (own := [("_law_tie", 5)]) (g := gName 5) (tt := tYes) rfl sc__law_cover.nd (pi_tup (pe_ix ix_tup (pv 1) pe_int (fun _ _ => rfl))) (blkOk_by (N := ["_law_box", "_law_web_here", "_law_one", "_law_place", "_law_other", "_law_tie", "_law_low", "_law_high"]) (sc := defScope s__law_cover) (by decide +kernel)) (fun _ _ _ _ _ => pg_name (i := 5) sc__law_cover.nd rfl (Or.inl rfl)) (fun _ _ _ _ _ => pts_nil) (fun _ _ _ _ _ => (pe_slice (show SlR _ (rSlT K) from sl_tup) (pv 5) po_none (po_some pe_int))))) (pg_tup (by rfl) (pgs_cons (pg_name (i := 6) sc__law_cover.nd rfl (Or.inl rfl)) (pgs_cons (pg_name (i := 7) sc__law_cover.nd rfl (Or.inl rfl)) pgs_nil))) (pss_one (ps_if (pt_not (PW.pt (pw_and (pt_cmpR op_in_seq (pv 6) (pv 2) (by rfl)) (pw_and1 (pt_cmpR op_in_seq (pv 7) (pv 2) (by rfl)))))) (pss_one (ps_set (i := 4) sc__law_cover.nd rfl (Or.inl rfl) (pe_callB (cr_sortedSet rfl) (by rfl) B.sorted (by decide +kernel) (pa_cons (pe_callTy (SetLi.cr_setLi rfl) (by rfl) B.set (by decide +kernel) (pa_cons (pe_op op_cat (pv 4) (pe_lst (pa_cons (pv 6) (pa_cons (pv 7) pa_nil)))) pa_nil)) pa_nil)))) pss_nil))) (pss_cons (ps_if (PW.pt (pw_or (pt_cmpR (op_eqD hr.units) (pv 4) (pe_lst pa_nil) (nomark _)) (pw_or1 (pt_cmpR op_eq (pe_call G__law_draw (hr.mono (by omega)) (by rfl) m__law_draw k__law_draw b__law_draw .nil pass0 (pa_cons (pv 0) (pa_cons pe_int pa_nil))) pe_int (nomark _))))) (pss_one (ps_set (i := 4) sc__law_cover.nd rfl (Or.inl rfl) (pe_callB (cr_sortedSet rfl) (by rfl) B.sorted (by decide +kernel) (pa_cons (pe_callTy (SetLi.cr_setLi rfl) (by rfl) B.set (by decide +kernel) (pa_cons (pe_op op_cat (pv 4) (pe_lst (pa_cons (pe_call G__law_draw (hr.mono (by omega)) (by rfl) m__law_draw k__law_draw b__law_draw .nil pass0 (pa_cons (pv 0) (pa_cons (pe_callB call_len_seq (by rfl) B.len PySem.boot_len (pa_cons (pe_ix ix_tup (pv 1) pe_int (fun _ _ => rfl)) pa_nil)) pa_nil))) pa_nil))) pa_nil)) pa_nil)))) pss_nil) (pss_one (ps_ret (pe_tup (pa_cons (pv 2) (pa_cons (pv 4) pa_nil))))))))), ?_⟩
    have l8 := ok.len8
    have l12 := ok.len12
    have l0 := ok.len0
    refine ⟨_, rfl, _, rfl, box, l, f, F, v, sz, ts, rfl, hb, hW, ok, fun H1 a LA st1 na nfa ea hA => ?_⟩
    have hW1 := hW.tk (Tk.stp (K := K) hb st1)
    obtain ⟨pw, pa, pb, us, rfl, hw, ha, hbt, hT⟩ := id hW1
    have li : (intsV sz).length = sz.length := List.length_map ..
    have lus := hT.len
    have hA1 : SqL K H1 a (intsV LA) := SqL.of ea
    refine gName_go3 (nx_go3 ?_)
    refine ⟨_, rfl, pw, _, _, _, rfl, rfl, hw, rfl, pa, _, rfl, .inr ha, _, rfl, by omega, by omega, fun D hD => ?_⟩
    refine lc_range (lo := 0) (n := (((intsV sz).length : Nat) : Int).toNat) (fun i H' => Same H1 H' ∧ ∃ LB, H' D = some (.lst (intsV LB)) ∧ UpB i LB) ⟨same_new hD, [], upd_same, .nil, (fun p h => by cases h)⟩ ?_ ?_
    · rintro i H2 hi ⟨s2, LB, hz, hU⟩
      have e0 : (0 : Int) + (i : Int) = ((i : Nat) : Int) := Int.zero_add _
      rw [e0]
      have lz := hU.len
      have lI : (intsV LB).length = LB.length := List.length_map ..
      refine ⟨rfl, ?_⟩
      refine ⟨_, rfl, _, rfl, notin_list (s2.seq hA1) ⟨_, rfl, ite2 (fun e => ?_) (fun _ => ⟨s2, LB, hz, hU.up, fun p hp => by have := hU.lt p hp; omega⟩)⟩⟩
      refine ⟨_, rfl, _, hz, small1000 (by omega), same_seqT_upd s2 hD hz, LB ++ [i], by rw [upd_same, ← intsV_app]; rfl, ?_, fun p hp => ?_⟩
      · refine List.pairwise_append.mpr ⟨hU.up, List.pairwise_singleton _ _, fun x hx y hy => ?_⟩
        rw [List.mem_singleton.mp hy]
        exact hU.lt x hx
      · rcases List.mem_append.mp hp with hp | hp
        · have := hU.lt p hp
          omega
        · rw [List.mem_singleton.mp hp]
          omega
    rintro H2 ⟨s2, LB, hz, hU⟩
    rw [Int.toNat_natCast, li] at hU
    have st2 := st1.same s2
    have nDb : D ≠ box := st1.box.ne hD
    refine gName_go3 (nx_go3 ?_)
    have hw2 := Same.seqT s2 hw
    have hbt2 := Same.seqT s2 hbt
    have hT2 := hT.tk (Tk.same (K := K) s2)
    have hA2 := s2 _ _ ea
    clear hT hbt
    refine ⟨_, rfl, pw, _, _, _, rfl, rfl, hw2, rfl, pb, rfl, ⟨_, hbt2⟩, fun D1 hD1 => lc_tup (K := K) (a := pb) (xs := us) (fun i H' => Same H2 H' ∧ ∃ zs, H' D1 = some (.lst zs) ∧ EndsT K H' zs (ts.take i)) ⟨same_new hD1, [], upd_same, .nil⟩ (fun i H' _ ⟨s, _⟩ => Same.seqT s hbt2) ?_ ?_⟩
    · rintro i x H3 hi ⟨s3, zs, hz, hzs⟩
      have hil := (List.getElem?_eq_some_iff.mp hi).1
      obtain ⟨t, et, ht⟩ := hT2.pickV hi
      obtain ⟨pt, u, v, rfl, hpt, hu, hv⟩ := ht.tk (Tk.same s3)
      refine ⟨rfl, tYes_of (iteT ⟨_, rfl, _, rfl, ?_⟩)⟩
      refine ⟨pt, _, rfl, hpt, (fun z => absurd z.2 (by show ¬ (HT.sIx 5 5 (some 2) = 5); decide)), fun p hp => ?_⟩
      have sp := same_new (o := .tup (cutV [V.int (t.one : Nat), .int (t.other : Nat), .int (t.room : Nat), u, v] none (some 2))) hp
      have hz4 := sp _ _ hz
      have lz := hzs.len
      rw [List.length_take] at lz
      refine ⟨zs, hz4, small1000 (by omega), same_seqT_upd (s3.trans sp) hD1 hz4, zs ++ [.ref p], upd_same, ?_⟩
      rw [List.take_add_one, et]
      have tp := Tk.put (K := K) (o := .lst (zs ++ [.ref p])) hz4
      exact EndsT.snoc ⟨p, rfl, tp _ _ (SqT.of upd_same)⟩ ((hzs.tk (Tk.same sp)).tk tp)
    rintro H3 ⟨s3, zs, hzz, hzs⟩
    rw [lus, List.take_length] at hzs
    have lz := hzs.len
    have st3 := st2.same s3
    refine ⟨D1, rfl, ⟨_, SqL.of hzz⟩, for_list (K := K) (a := D1) (xs := zs) (fun i σ H' => Same H3 H' ∧ ∃ (D' : Addr) (LB : List Nat) (z5 z6 z7 : Option V), D' ≠ box ∧ H' D' = some (.lst (intsV LB)) ∧ UpB sz.length LB ∧ σ = [some (.ref box), some (.ref pw), some (.ref a), none, some (.ref D'), z5, z6, z7]) ⟨Same.refl _, D, LB, _, _, _, nDb, s3 _ _ hz, hU, rfl⟩ (fun i σ H' _ h => h.1.seq (SqL.of hzz)) ?_ ?_⟩
    · rintro i x σ H4 hi ⟨s4, D', LB, z5, z6, z7, nD', hz4, hU4, rfl⟩
      obtain ⟨t, et, p, rfl, hp⟩ := (hzs.tk (Tk.same s4)).pick hi
      have okt := ok.ties t (List.mem_of_getElem? et)
      have hA4 : SqL K H4 a (intsV LA) := SqL.of ((s3.trans s4) _ _ hA2)
      refine ⟨p, _, rfl, hp, rfl, _, _, rfl, _, _, rfl, rfl, ?_⟩
      have lU := hU4.len
      refine gT_not (gT_and (gT_test fun Q q => ⟨_, rfl, _, rfl, in_list hA4 q⟩) (gT_test fun Q q => ⟨_, rfl, _, rfl, in_list hA4 q⟩)) _ ?_
      cases (decide (t.one ∈ LA) && decide (t.other ∈ LA)) with
      | true => exact iteF ⟨s4, D', LB, _, _, _, nD', hz4, hU4, rfl⟩
      | false =>
        refine iteT ?_
        refine ⟨_, rfl, _, rfl, _, rfl, (by show 2 ≤ sizeLine; decide), fun q1 hq1 => ?_⟩
        have t1 := same_new (o := .lst [V.int (t.one : Nat), .int (t.other : Nat)]) hq1
        have lI : (intsV LB).length = LB.length := List.length_map ..
        refine ⟨D', q1, _, _, rfl, rfl, t1 _ _ hz4, upd_same, by rw [lI]; exact Nat.le_of_lt (small1000 (by show LB.length + 2 ≤ 1000; omega)), fun q2 hq2 => ?_⟩
        have t2 := same_new (o := .lst (intsV LB ++ [V.int (t.one : Nat), .int (t.other : Nat)])) hq2
        have s44 := t1.trans t2
        have eM : (upd (upd H4 q1 (.lst [V.int (t.one : Nat), .int (t.other : Nat)])) q2 (.lst (intsV LB ++ [V.int (t.one : Nat), .int (t.other : Nat)]))) q2 = some (.lst ((toI (LB ++ [t.one, t.other])).map V.int)) := by
          rw [upd_same, toI_ints, ← intsV_app]
          rfl
        have lM : (toI (LB ++ [t.one, t.other])).length = LB.length + 2 := by
          unfold toI
          rw [List.length_map, List.length_append]
          rfl
        have hM : ∀ m ∈ LB ++ [t.one, t.other], m < sz.length := fun m hm => by
          rcases List.mem_append.mp hm with hm | hm
          · exact hU4.lt m hm
          · rcases List.mem_cons.mp hm with rfl | hm
            · exact okt.one
            · rw [List.mem_singleton.mp hm]
              exact okt.other
        refine ⟨q2, toI (LB ++ [t.one, t.other]), rfl, SqL.of eM, by omega, fun s c hs hc => ?_⟩
        refine ⟨s, _, c, rfl, upd_same, by omega, fun ns r5 hpw hmem hlen hr => ?_⟩
        obtain ⟨N, s5, n5, e5, hN, _⟩ := set_facts hM hs hpw hmem hr
        exact ⟨s4.trans (s44.trans s5), r5, N, _, _, _, ((st3.same s4).same s44).box.ne n5, e5, hN, rfl⟩
    rintro σ H4 ⟨s4, D', LB, z5, z6, z7, nD', hz4, hU4, rfl⟩
    have st4 := st3.same s4
    have lU := hU4.len
    have lI : (intsV LB).length = LB.length := List.length_map ..
    have hA4 : H4 a = some (.lst (intsV LA)) := (s3.trans s4) _ _ hA2
    have hw4 := Same.seqT (s3.trans s4) hw2
    have ha4 := Same.seqT ((s2.trans s3).trans s4) ha
    have hLA : ViewOk sz LA := hA
    have fin : ∀ (H' : Hp) (D5 : Addr) (N : List Nat), Stp box l H H' → H' a = some (.lst (intsV LA)) → D5 ≠ box → H' D5 = some (.lst (intsV N)) → UpB sz.length N → N ≠ [] → ∀ p, H' p = none → Q (.ref p) (upd H' p (.tup [.ref a, .ref D5])) := fun H' D5 N st hA' nb hz' hN h0 p hp => by
      have sp := same_new (o := .tup [.ref a, .ref D5]) hp
      exact q _ p a D5 LA N (st.same sp) (SqT.of upd_same) na nb (sp _ _ hA') (sp _ _ hz') hLA ⟨h0, hN.up, hN.lt, by have := hN.len; omega⟩
    refine nx_go3 ?_
    refine tIfS_join (fun σ' H' => ∃ (D5 : Addr) (N : List Nat), Stp box l H H' ∧ H' a = some (.lst (intsV LA)) ∧ D5 ≠ box ∧ H' D5 = some (.lst (intsV N)) ∧ UpB sz.length N ∧ N ≠ [] ∧ σ' = [some (.ref box), some (.ref pw), some (.ref a), none, some (.ref D5), z5, z6, z7]) ?_ fun rest => ?_
    · rintro _ H5 ⟨D5, N, st5, hA5, n5, e5, hN, h0, rfl⟩
      exact nx1_go ⟨_, rfl, _, rfl, (by show 2 ≤ sizeLine; decide), fun p hp => fin H5 D5 N st5 hA5 n5 e5 hN h0 p hp⟩
    refine if_go (tt_mid (fun b H' => Stp box l H H' ∧ H' a = some (.lst (intsV LA)) ∧ H' D' = some (.lst (intsV LB)) ∧ SqT K H' pw [V.int f, .ref pa, .ref pb] ∧ SqT K H' pa (intsV sz) ∧ (b = false → LB ≠ [])) ?_ fun rest2 => ?_)
    · rintro b H6 ⟨st6, hA6, hz6, hw6, ha6, hb0⟩
      cases b with
      | false => exact iteF (rest _ _ ⟨D', LB, st6, hA6, nD', hz6, hU4, hb0 rfl, rfl⟩)
      | true =>
        refine iteT ?_
        refine ⟨_, rfl, _, rfl, _, rfl, pw, _, _, _, rfl, rfl, hw6, rfl, pa, _, rfl, .inr ha6, box, l, _, rfl, st6.box, by rw [li]; omega, log_s8 (by rw [li]; omega), fun H7 k st7 k0 k1 => ?_⟩
        obtain ⟨k, rfl⟩ := Int.eq_ofNat_of_zero_le k0
        rw [li] at k1
        have st67 := st6.trans st7
        have hA7 := st7.keep _ _ na hA6
        have hz7 := st7.keep _ _ nD' hz6
        refine ⟨(by show 1 ≤ sizeLine; decide), fun q1 hq1 => ?_⟩
        have t1 := same_new (o := .lst [V.int (k : Nat)]) hq1
        refine ⟨D', q1, _, _, rfl, rfl, t1 _ _ hz7, upd_same, by rw [lI]; exact Nat.le_of_lt (small1000 (by show LB.length + 1 ≤ 1000; omega)), fun q2 hq2 => ?_⟩
        have t2 := same_new (o := .lst (intsV LB ++ [V.int (k : Nat)])) hq2
        have s44 := t1.trans t2
        have eM : (upd (upd H7 q1 (.lst [V.int (k : Nat)])) q2 (.lst (intsV LB ++ [V.int (k : Nat)]))) q2 = some (.lst ((toI (LB ++ [k])).map V.int)) := by
          rw [upd_same, toI_ints, ← intsV_app]
          rfl
        have lM : (toI (LB ++ [k])).length = LB.length + 1 := by
          unfold toI
          rw [List.length_map, List.length_append]
          rfl
        have hM : ∀ m ∈ LB ++ [k], m < sz.length := fun m hm => by
          rcases List.mem_append.mp hm with hm | hm
          · exact hU4.lt m hm
          · rw [List.mem_singleton.mp hm]
            omega
        refine ⟨q2, toI (LB ++ [k]), rfl, SqL.of eM, by omega, fun s c hs hc => ?_⟩
        refine ⟨s, _, c, rfl, upd_same, by omega, fun ns r8 hpw hmem hlen hr => ?_⟩
        obtain ⟨N, s8, n8, e8, hN, hM⟩ := set_facts hM hs hpw hmem hr
        have s78 := s44.trans s8
        refine rest _ _ ⟨r8, N, st67.same s78, s78 _ _ hA7, (st67.same s44).box.ne n8, e8, hN, fun z => ?_, rfl⟩
        have := hM k (List.mem_append_right _ (List.mem_singleton.mpr rfl))
        rw [z] at this
        cases this
    refine ⟨_, rfl, (by show 0 ≤ sizeLine; decide), fun pz hz => ?_⟩
    have sz' := same_new (o := .lst []) hz
    have dpn : ∀ {H : Hp} (P : List Nat), DpAll K H (intsV P) ((toI P).map PyData.int) := fun P => by
      rw [← toI_ints]
      exact dp_intsI _
    refine ⟨.list ((toI LB).map PyData.int), .list [], .lst (SqL.of (sz' _ _ hz4)) (dpn LB), .lst (SqL.of upd_same) .nil, (lay_intsI _).shaped (by decide), by decide, ?_⟩
    rw [show PyData.eqv (.list ((toI LB).map PyData.int)) (.list []) = decide (toI LB = []) from eqv_intsI (toI LB) []]
    have st5 := st4.same sz'
    have hz5 := sz' _ _ hz4
    have hA5 := sz' _ _ hA4
    have hw5 := Same.seqT sz' hw4
    have ha5 := Same.seqT sz' ha4
    generalize upd H4 pz (.lst []) = H5 at *
    refine ⟨_, rfl, ite2 (fun _ => rest2 _ _ ⟨st5, hA5, hz5, hw5, ha5, fun z => by cases z⟩) (fun e => ?_)⟩
    have h0 : LB ≠ [] := fun z => e (decide_eq_true (by rw [z]; rfl))
    refine ⟨_, rfl, box, l, _, rfl, st5.box, by decide, by decide +kernel, fun H6 d st6 _ _ => ?_⟩
    have k6 := Tk.stp (K := K) st5.box st6
    exact ⟨rfl, _, rfl, rest2 _ _ ⟨st5.trans st6, st6.keep _ _ na hA5, st6.keep _ _ nD' hz5, k6 _ _ hw5, k6 _ _ ha5, fun _ => h0⟩⟩

open Lin
theorem KX.of {D : Addr} {H H' : Hp} (s : Same H H') : KX D H H' := fun a o _ h _ => s a o h
theorem KX.keep {D : Addr} {H H' : Hp} (s : Keep D H H') : KX D H H' := fun a o n h _ => s a o n h
theorem KX.tkb {K : PySem.W.Frag} {box l : Addr} {H H' : Hp} (e : KX box H H') (hb : BoxAt H box l) : Tk K H H' := by
  obtain ⟨ns, i, x, s, c, b1, _⟩ := hb
  exact KX.tk e b1
theorem KX.lst {D a : Addr} {H H' : Hp} {xs : List V} (e : KX D H H') (n : a ≠ D) (h : H a = some (.lst xs)) : H' a = some (.lst xs) := e a _ n h fun _ z => by cases z
theorem word_ne {w : Str} : (!decide (V.str w = V.str w)) = false := by
  rw [decide_eq_true rfl]
  rfl
def colD (qs : List Pr) : PyData := .tuple (qs.map numD)
theorem dp_numsq {K : PySem.W.Frag} {H : Hp} : ∀ {vs : List V} {qs : List Pr}, NumsV K H vs qs → DpAll K H vs (qs.map numD)
  | _, _, .nil => .nil
  | _, _, .cons g r => .cons (dp_num g) (dp_numsq r)
theorem ColsQ.dp {K : PySem.W.Frag} {H : Hp} : ∀ {xs : List V} {QS : List (List Pr)}, ColsQ K H xs QS → DpAll K H xs (QS.map colD)
  | _, _, .nil => .nil
  | _, _, .cons ⟨a, us, e, h1, h2⟩ r => by
    subst e
    exact .cons (.tup h1 (dp_numsq h2)) (ColsQ.dp r)
theorem lay_cols (QS : List (List Pr)) : LayN 3 (.list (QS.map colD)) := lay_list fun d hd => by
  obtain ⟨qs, _, rfl⟩ := List.mem_map.mp hd
  exact lay_tup fun d hd => by
    obtain ⟨q, _, rfl⟩ := List.mem_map.mp hd
    exact lay_num q
theorem ok_cols {QS : List (List Pr)} (h : QS.length ≤ 1000) (hl : ∀ qs ∈ QS, qs.length ≤ 1000) : okD 3 (.list (QS.map colD)) := by
  refine ⟨by rw [List.length_map]; exact h, fun d hd => ?_⟩
  obtain ⟨qs, hq, rfl⟩ := List.mem_map.mp hd
  refine ⟨by rw [List.length_map]; exact hl qs hq, fun e he => ?_⟩
  obtain ⟨q, _, rfl⟩ := List.mem_map.mp he
  refine ⟨by show 2 ≤ 1000; decide, fun g hg => ?_⟩
  rcases List.mem_cons.mp hg with rfl | hg
  · trivial
  · rw [List.mem_singleton.mp hg]
    trivial
theorem tCons_mid {a : TE} {t : TA} {σ : L2.St} {H : Hp} {Q : List V → Hp → Prop} (M : V → Hp → Prop) (h : ∀ v H', M v H' → t σ H' fun xs H2 => Q (v :: xs) H2) (k : (∀ v H', M v H' → t σ H' fun xs H2 => Q (v :: xs) H2) → a σ H fun x H1 => t σ H1 fun xs H2 => Q (x :: xs) H2) : tCons a t σ H Q := k h
def seenWord (f : Int) (sz : List Nat) (P : List Int) (QS : List (List Pr)) : Str := if goodV sz P = true then (if okCols f sz QS = true then "" else "badwhole") else "badview"
theorem seen_word {f : Int} {sz : List Nat} {P : List Int} {QS : List (List Pr)} (h8 : sz.length ≤ 8) : (seenWord f sz P QS = "" ∧ goodV sz P = true ∧ okCols f sz QS = true ∧ ∃ P' : List Nat, P = toI P' ∧ ViewOk sz P') ∨ seenWord f sz P QS ≠ "" := by
  unfold seenWord
  cases hg : goodV sz P with
  | false => exact .inr (by rw [if_neg Bool.false_ne_true]; decide)
  | true =>
    cases ho : okCols f sz QS with
    | false => exact .inr (by rw [if_pos rfl, if_neg Bool.false_ne_true]; decide)
    | true => exact .inl ⟨rfl, rfl, rfl, goodV_view h8 hg⟩
/-- what is due of columns seen -/
def SeenDue (K : PySem.W.Frag) (H : Hp) (box : Addr) (f : Int) (sz : List Nat) (P : List Int) (QS : List (List Pr)) (u : V) : Prop :=
  (seenWord f sz P QS ≠ "" ∧ u = .non) ∨ (seenWord f sz P QS = "" ∧ ∃ (P' : List Nat) (D : Addr) (zs : List V), P = toI P' ∧ u = .ref D ∧ D ≠ box ∧ H D = some (.lst zs) ∧ ColsQ K H zs (seenQ P' QS))
theorem SeenDue.kx {K : PySem.W.Frag} {H H' : Hp} {box l : Addr} {f : Int} {sz : List Nat} {P : List Int} {QS : List (List Pr)} {u : V} (h : SeenDue K H box f sz P QS u) (k : KX box H H') (hb : BoxAt H box l) : SeenDue K H' box f sz P QS u := by
  rcases h with h | ⟨h, P', D, zs, e1, e2, n, e3, e4⟩
  · exact .inl h
  · exact .inr ⟨h, P', D, zs, e1, e2, n, k.lst n e3, e4.tk (k.tkb hb)⟩
def seenD (f : Int) (sz : List Nat) (P : List Int) (QS : List (List Pr)) : PyData := if seenWord f sz P QS = "" then .list ((seenQ (P.map Int.toNat) QS).map colD) else .none
theorem toI_nat (P : List Nat) : (toI P).map Int.toNat = P := by
  unfold toI
  rw [List.map_map]
  exact (List.map_congr_left fun p _ => rfl).trans (List.map_id _)
theorem SeenDue.dp {K : PySem.W.Frag} {H : Hp} {box : Addr} {f : Int} {sz : List Nat} {P : List Int} {QS : List (List Pr)} {u : V} (h : SeenDue K H box f sz P QS u) : Dp K H u (seenD f sz P QS) := by
  unfold seenD
  rcases h with ⟨h, rfl⟩ | ⟨h, P', D, zs, rfl, rfl, _, e3, e4⟩
  · rw [if_neg h]
    exact .non
  · rw [if_pos h, toI_nat]
    exact .lst (SqL.of e3) e4.dp
def spSeenSo (K : PySem.W.Frag) (TL : List (Addr × Str)) : Sp := fun vs H Q _ => ∃ (box l : Addr) (f : Int) (F : Fd f) (v : V) (sz : List Nat) (ts : List (Tie F.F)) (r c pd : Addr) (P : List Int) (xs : List V) (QS : List (List Pr)) (u : V), vs = [v, .ref r, .ref c, .ref pd] ∧ Here box l TL H ∧ IsF f ∧ WebT K H F v sz ts ∧ WebOk F sz ts ∧ r ≠ box ∧ H r = some (.lst (P.map V.int)) ∧ P.length ≤ 60 ∧ c ≠ box ∧ H c = some (.lst xs) ∧ ColsQ K H xs QS ∧ QS.length ≤ 200 ∧ (∀ qs ∈ QS, qs.length ≤ 200) ∧
  SqT K H pd [u, .str (seenWord f sz P QS)] ∧ SeenDue K H box f sz P QS u ∧ ∀ H', Here box l TL H' → KX box H H' → Q (.bl true) H'
theorem len__law_seen_so {K TL vs H Q E} (h : spSeenSo K TL vs H Q E) : vs.length = 4 := by
  obtain ⟨box, l, f, F, v, sz, ts, r, c, pd, P, xs, QS, u, rfl, _⟩ := h
  rfl
theorem d__law_seen_so {P : Program} {w : World} {K : PySem.W.Frag} {mg : Str → Option Value} {base : Heap} {CW : Addr × Addr} {f cL PT g : Addr} {oc oc2 kV doc pm ct kV2 doc2 pm2 cdv2 ct2 : Value} {od an od2 an2 : Option Addr} {osl osl2 : Array (Option Value)} {TL : List (Addr × Str)}
    (lk : K.lookup f = some ⟨oc, od, .func (PySem.W.fnOf "_law_seen_so" "_law_seen_so" (defArgs s__law_seen_so) (defBody s__law_seen_so) (defScope s__law_seen_so) .none kV doc pm an (.ref cL) ct), osl⟩) (hcd : PySem.W.codeIn K (.ref cL) "_law_seen_so" = true) (hm : mg "_law_seen_so" = some (.ref f)) (hk : PySem.W.keepIn K (.ref f) = true) (hb : Binds K (PySem.W.fnOf "_law_seen_so" "_law_seen_so" (defArgs s__law_seen_so) (defBody s__law_seen_so) (defScope s__law_seen_so) .none kV doc pm an (.ref cL) ct) ["_law_web_here", "_law_places_here", "_law_whole_here", "_law_due"] []) (TB : LamX.TabB base mg cL PT) (hTL : (PT, ("_law_seen_so.<locals>.<lambda>" : Str)) ∈ TL) (huL : ∀ p ∈ TL, p.1 = PT → p.2 = "_law_seen_so.<locals>.<lambda>")
    (W : WhyAt K mg g oc2 od2 kV2 doc2 pm2 an2 cdv2 ct2 osl2) (mW : mg "WebError" = some (.ref CW.1)) (mM : mg "Missing" = some (.ref CW.2)) (B : Bn mg) {f__law_like : Addr} {fd__law_like : FuncData} (D__law_why : True) (D__law_like : (∀ n, FnOk P w K mg base CX0 (n + 2) f__law_like fd__law_like ["_law_found", "_law_due"] (spLike K n)) ∧ mg "_law_like" = some (.ref f__law_like) ∧ PySem.W.keepIn K (.ref f__law_like) = true ∧ Binds K fd__law_like ["_law_found", "_law_due"] []) (D_seen : DefX P w K mg base "seen" 7 ["web", "places", "whole"] (spSeenX K CW)) : Def P w K mg base "_law_seen_so" 10 ["_law_web_here", "_law_places_here", "_law_whole_here", "_law_due"] (spSeenSo K TL) := by
  obtain ⟨f_seen, fd_seen, G_seen, m_seen, k_seen, b_seen⟩ := D_seen
  refine ⟨f, _, fn_of lk hcd sc__law_seen_so (fun vs H Q E h => len__law_seen_so h) (fun A outer s H vs Q E hr h => ?_), hm, hk, hb⟩
  suffices ∃ t, PSs (cxOf CX0 P w K mg base ["_law_web_here", "_law_places_here", "_law_whole_here", "_law_due", "_law_kept", "_law_found"] "_law_seen_so" (defScope s__law_seen_so) f (.ref cL) A outer s H E).nox (defBody s__law_seen_so) t ∧ t { nx := fun _ H' => Q .non H', rt := Q } (start ["_law_web_here", "_law_places_here", "_law_whole_here", "_law_due", "_law_kept", "_law_found"] vs) H by
    obtain ⟨t, h1, h2⟩ := this
    exact ⟨t, h1.nox, h2⟩
  obtain ⟨box, l, f, F, v, sz, ts, r, c, pd, P, xs, QS, u, rfl, hh, hf, hW, ok, nr, er, lP, nc, ec, hQ, lQ, wQ, hpd, hdue, q⟩ := h
  have G__law_like := D__law_like.1 4
  have m__law_like := D__law_like.2.1
  have k__law_like := D__law_like.2.2.1
  have b__law_like := D__law_like.2.2.2
  refine ⟨_, (pss_cons (ps_set (i := 4) sc__law_seen_so.nd rfl (Or.inl rfl) (pe_lst (pa_cons (pe_callTy call_list_of (by rfl) B.list (by decide +kernel) (pa_cons (pv 1) pa_nil)) (pa_cons (pe_callTy call_list_of (by rfl) B.list (by decide +kernel) (pa_cons (pv 2) pa_nil)) pa_nil)))) (pss_cons (ps_set (i := 5) sc__law_seen_so.nd rfl (Or.inl rfl) (LamX.pe_lamS (k := 7) (T := TL) (x := "_law_why") (by rfl) W.m W.k W.l W.c W.b sc__law_why rfl (Or.inl rfl) (why_asks rfl mW mM) TB rfl (by exact hTL) (fun p hp e => huL p hp e) (hr.mono (by omega)) (LamX.lamS_by (sc := defScope s__law_seen_so) (by decide +kernel)) rfl (fun _ _ _ _ _ => rfl) (fun _ _ _ _ E _ _ hr => (pe_call G_seen (hr.mono (by omega)) (by rfl) m_seen k_seen b_seen .nil (passes_call (takes_of rfl rfl rfl rfl) (fun _ _ _ _ h => h)) (pa_cons (pv 0) (pa_cons (pv 1) (pa_cons (pv 2) pa_nil))))))) (pss_cons (ps_if (pt_not (pt_val (pe_call G__law_like (hr.mono (by omega)) (by rfl) m__law_like k__law_like b__law_like .nil pass0 (pa_cons (pv 5) (pa_cons (pv 3) pa_nil))))) (pss_one (ps_ret pe_bl)) pss_nil) (pss_cons (ps_if (pt_cmpR op_eq (pe_ix ix_tup (pv 3) pe_int (fun _ _ => rfl)) pe_str (nomark _)) (pss_one (ps_expr (pe_bm PySem.F.plainAttrs_list PySem.F.slot_list_append PySem.F.type_list_append mt_append (pe_ix ix_tup (pv 5) pe_int (fun _ _ => rfl)) (pa_cons pe_int pa_nil)))) pss_nil) (pss_one (ps_ret (pe_cmpR (op_eqD hr.units) (pv 4) (pe_lst (pa_cons (pv 1) (pa_cons (pv 2) pa_nil))) (nomark _)))))))), ?_⟩
  have lx := hQ.len
  have l8 := ok.len8
  refine ⟨_, rfl, r, _, rfl, .inl (SqL.of er), fun D1 n1 => ?_⟩
  have s1 := same_new (o := .lst (P.map V.int)) n1
  refine ⟨_, rfl, c, xs, rfl, .inl (SqL.of (s1 _ _ ec)), fun D2 n2 => ?_⟩
  have s2 := same_new (o := .lst xs) n2
  refine ⟨(by show 2 ≤ sizeLine; decide), fun K0 n0 => ?_⟩
  have s3 := same_new (o := .lst [V.ref D1, .ref D2]) n0
  have e1 : (upd (upd (upd H D1 (.lst (P.map V.int))) D2 (.lst xs)) K0 (.lst [V.ref D1, .ref D2])) D1 = some (.lst (P.map V.int)) := (s2.trans s3) _ _ upd_same
  have e2 : (upd (upd (upd H D1 (.lst (P.map V.int))) D2 (.lst xs)) K0 (.lst [V.ref D1, .ref D2])) D2 = some (.lst xs) := s3 _ _ upd_same
  have e0 : (upd (upd (upd H D1 (.lst (P.map V.int))) D2 (.lst xs)) K0 (.lst [V.ref D1, .ref D2])) K0 = some (.lst [V.ref D1, .ref D2]) := upd_same
  have s13 := (s1.trans s2).trans s3
  have m1 : D1 ≠ box := hh.box.ne n1
  have m2 : D2 ≠ box := (hh.same s1).box.ne n2
  have m0 : K0 ≠ box := ((hh.same s1).same s2).box.ne n0
  generalize upd (upd (upd H D1 (.lst (P.map V.int))) D2 (.lst xs)) K0 (.lst [V.ref D1, .ref D2]) = H3 at *
  have hh3 := hh.same s13
  have t3 := Tk.same (K := K) s13
  have k3 := KX.of (D := box) s13
  have er3 := s13 _ _ er
  have ec3 := s13 _ _ ec
  have hW3 := hW.tk t3
  have hQ3 := hQ.tk t3
  have hpd3 := t3 _ _ hpd
  have hdue3 := hdue.kx k3 hh.box
  refine gName_go (nx_go (tAsg_mid (fun x H' => ∃ (pz : Addr) (v' : V), x = .ref pz ∧ SqT K H' pz [v', .str (seenWord f sz P QS)] ∧ Here box l TL H' ∧ KX box H3 H' ∧ ((seenWord f sz P QS ≠ "" ∧ v' = .non) ∨ (seenWord f sz P QS = "" ∧ ∃ (P' : List Nat) (D : Addr) (zs : List V), P = toI P' ∧ ViewOk sz P' ∧ v' = .ref D ∧ (∀ o, (∀ ps, o ≠ HO.tbl ps) → H3 D ≠ some o) ∧ H' D = some (.lst zs) ∧ ColsQ K H' zs (seenQ P' QS)))) ?_ fun rest => ?_))
  rotate_left
  · refine ⟨hh3.tab, fun H4 e4 t4 E R' hE hR => ?_⟩
    have k4 := Tk.extN (K := K) e4
    have bad : ∀ w, seenWord f sz P QS = w → w ≠ "" → ∀ (C d : Addr) (H2 : Hp), ErrIs K CW C → Same H4 H2 → H2 d = some (.xd [("word", .str w)]) → E (.ref C) (some d) H2 := fun w ew nw C d H2 hC s2 hd => hE C d _ H2 hC hd fun pz hz => by
      have s3 := s2.trans (same_new (o := .tup [.non, .str w]) hz)
      have e3 := e4.trans (LamX.ExtN.of s3)
      exact rest _ _ ⟨pz, .non, rfl, by rw [ew]; exact SqT.of upd_same, hh3.extN e3 (t4.ext s3), KX.ext e3, .inl ⟨fun z => nw (ew.symm.trans z), rfl⟩⟩
    refine ⟨_, rfl, _, rfl, _, rfl, f, F, v, sz, ts, r, c, P, xs, QS, rfl, hf, hW3.tk k4, ok, SqL.of (e4 _ _ er3 fun _ z => by cases z), by omega, SqL.of (e4 _ _ ec3 fun _ z => by cases z), hQ3.tk k4, fun qs hq => by have := wQ qs hq; omega, fun hg => bad _ (by unfold seenWord; rw [hg]; rfl) (by decide), fun hg ho => bad _ (by unfold seenWord; rw [hg, ho]; rfl) (by decide), fun hg ho P' eP hV H5 D zs s5 nD eD hC => hR (.ref D) H5 fun pz hz => ?_⟩
    have sp := same_new (o := .tup [.ref D, .str ""]) hz
    have e3 := e4.trans (LamX.ExtN.of (s5.trans sp))
    have ew : seenWord f sz P QS = "" := by unfold seenWord; rw [hg, ho]; rfl
    refine rest _ _ ⟨pz, .ref D, rfl, by rw [ew]; exact SqT.of upd_same, hh3.extN e3 (t4.ext (s5.trans sp)), KX.ext e3, .inr ⟨ew, P', D, zs, eP, hV, rfl, ?_, sp _ _ eD, hC.tk (Tk.same sp)⟩⟩
    intro o ho hn
    have := e4 _ _ hn ho
    rw [nD] at this
    cases this
  rintro _ H5 ⟨pz, v', rfl, hpz, hh5, k5, hval⟩
  have t5 := k5.tkb (K := K) hh3.box
  have hdue5 := hdue3.kx k5 hh3.box
  have hpd5 := t5 _ _ hpd3
  have dpv : Dp K H5 v' (seenD f sz P QS) := by
    unfold seenD
    rcases hval with ⟨h, rfl⟩ | ⟨h, P', D, zs, rfl, hV, rfl, _, e3, e4⟩
    · rw [if_neg h]
      exact .non
    · rw [if_pos h, toI_nat]
      exact .lst (SqL.of e3) e4.dp
  have okd : okD 3 (seenD f sz P QS) := by
    unfold seenD
    rcases seen_word (f := f) (P := P) (QS := QS) l8 with ⟨h, _, _, P', rfl, hV⟩ | h
    · rw [if_pos h, toI_nat]
      have := hV.2.2.2
      refine ok_cols (by unfold seenQ; rw [List.length_map]; omega) fun qs hq => ?_
      unfold seenQ at hq
      obtain ⟨p, _, rfl⟩ := List.mem_map.mp hq
      rw [List.getD_eq_getElem?_getD]
      cases hc : QS[p]? with
      | none => exact Nat.zero_le _
      | some m =>
        have := wQ m (List.mem_of_getElem? hc)
        show m.length ≤ 1000
        omega
    · rw [if_neg h]
      trivial
  refine gName_go (nx_go ?_)
  refine ⟨_, rfl, _, rfl, .ref pz, .ref pd, .tuple [seenD f sz P QS, .str (seenWord f sz P QS)], rfl, .tup hpz (.cons dpv (.cons (.str _) .nil)), .tup hpd5 (.cons hdue5.dp (.cons (.str _) .nil)), ⟨by show 2 ≤ 1000; decide, fun d hd => ?_⟩, fun H6 s6 => ⟨_, rfl, iteF (nx_go ?_)⟩⟩
  · rcases List.mem_cons.mp hd with rfl | hd
    · exact okd
    · rw [List.mem_singleton.mp hd]
      trivial
  have hh6 := hh5.same s6
  have k6 := k5.trans (KX.of s6)
  have t6 := t5.trans (Tk.same (K := K) s6)
  have hpd6 := t6 _ _ hpd3
  have hpz6 := Same.seqT s6 hpz
  refine tIfS_join (fun σ' H' => Here box l TL H' ∧ KX box H3 H' ∧ σ' = [some v, some (.ref r), some (.ref c), some (.ref pd), some (.ref K0), some (.ref pz)]) ?_ fun rest => ?_
  · rintro _ H7 ⟨hh7, k7, rfl⟩
    have t7 := k7.tkb (K := K) hh3.box
    have er7 := k7.lst nr er3
    have ec7 := k7.lst nc ec3
    have e17 := k7.lst m1 e1
    have e27 := k7.lst m2 e2
    have e07 := k7.lst m0 e0
    have hQ7 := hQ3.tk t7
    refine nx1_go ⟨_, rfl, _, rfl, _, rfl, (by show 2 ≤ sizeLine; decide), fun p hp => ?_⟩
    have sp := same_new (o := .lst [V.ref r, .ref c]) hp
    have layB : LayN 4 (.list [.list (P.map PyData.int), .list (QS.map colD)]) := lay_list fun d hd => by
      rcases List.mem_cons.mp hd with rfl | hd
      · exact (lay_intsI P).mono (by decide)
      · rw [List.mem_singleton.mp hd]
        exact lay_cols QS
    have dI : ∀ {H : Hp} {a : Addr}, H a = some (.lst (P.map V.int)) → Dp K H (.ref a) (.list (P.map PyData.int)) := fun h => .lst (SqL.of h) (dp_intsI P)
    refine ⟨.list [.list (P.map PyData.int), .list (QS.map colD)], .list [.list (P.map PyData.int), .list (QS.map colD)], .lst (SqL.of (sp _ _ e07)) (.cons (dI (sp _ _ e17)) (.cons (.lst (SqL.of (sp _ _ e27)) (hQ7.tk (Tk.same sp)).dp) .nil)), .lst (SqL.of upd_same) (.cons (dI (sp _ _ er7)) (.cons (.lst (SqL.of (sp _ _ ec7)) (hQ7.tk (Tk.same sp)).dp) .nil)), layB.shaped (by decide), layB.shaped (by decide), ?_⟩
    rw [eqv_self _ layB.1]
    exact q _ (hh7.same sp) ((k3.trans k7).trans (KX.of sp))
  refine ⟨_, rfl, pd, _, _, _, rfl, rfl, hpd6, at1 _ _, rfl, _, rfl, ?_⟩
  rcases hval with ⟨h, rfl⟩ | ⟨h, P', D, zs, eP, hV, rfl, nD, eD, hC⟩
  · rw [decide_eq_false fun z => h (V.str.inj z)]
    exact iteF (rest _ _ ⟨hh6, k6, rfl⟩)
  · rw [show decide (V.str (seenWord f sz P QS) = V.str "") = true from decide_eq_true (by rw [h])]
    have eD6 := s6 _ _ eD
    have nDb : D ≠ box := fun z => by
      obtain ⟨_, _, _, _, _, b1, _⟩ := hh3.box
      rw [← z] at b1
      exact nD _ (fun _ z => by cases z) b1
    have nDl : D ≠ l := fun z => by
      obtain ⟨_, _, _, _, _, _, b2, _⟩ := hh3.box
      rw [← z] at b2
      exact nD _ (fun _ z => by cases z) b2
    refine iteT ⟨_, rfl, pz, _, _, _, rfl, rfl, hpz6, at0 _ _, .inl ⟨rfl, _, SqL.of eD6⟩, D, zs, .int 0, rfl, rfl, eD6, ?_, rest _ _ ⟨hh6.put eD6 nDb nDl, fun a o n ha ht => ?_, rfl⟩⟩
    · have lz := hC.len
      have := hV.2.2.2
      unfold seenQ at lz
      rw [List.length_map] at lz
      exact small1000 (by omega)
    · rw [upd_ne fun z => nD o ht (by rw [← z]; exact ha)]
      exact k6 a o n ha ht

open Lin
set_option maxHeartbeats 1500000
theorem ne_same {K : PySem.W.Frag} {H : Hp} {x y : V} {d : PyData} {n : Nat} {Q : VK} (hx : Dp K H x d) (hy : Dp K H y d) (l : LayN n d) (k : n ≤ 64) (q : Q (.bl false) H) : rNeD K x y H Q :=
  ⟨d, d, hx, hy, l.shaped k, l.shaped k, by rw [eqv_self _ l.1]; exact q⟩
theorem te_mid {te : TE} {σ : L2.St} {H : Hp} {Q : VK} (M : V → Hp → Prop) (h : ∀ x H', M x H' → Q x H') (k : (∀ x H', M x H' → Q x H') → te σ H Q) : te σ H Q := k h
theorem lay2 (w : Str) (hw : (PyData.str w).canLay0 = true) : LayN 1 (.list [.str w, .str w]) := lay_list fun d hd => by
  simp only [List.mem_cons, List.not_mem_nil, or_false] at hd
  rcases hd with rfl | rfl <;> exact ⟨hw, Nat.le_refl _⟩
theorem okD_tab {f : Int} {F : Fd f} {T : List (List F.F)} (h : T.length ≤ 1000) (hl : ∀ l ∈ T, l.length ≤ 1000) : okD 3 (tabD F T) := by
  refine ⟨by rw [List.length_map]; exact h, fun d hd => ?_⟩
  obtain ⟨x, hx, rfl⟩ := List.mem_map.mp hd
  exact ok_row (hl x hx)
theorem ok_web {f : Int} {F : Fd f} {sz : List Nat} {ts : List (Tie F.F)} (ok : WebOk F sz ts) : okD 6 (webD F sz ts) := by
  have l8 := ok.len8
  have l12 := ok.len12
  refine ⟨by show 3 ≤ 1000; decide, fun d hd => ?_⟩
  simp only [List.mem_cons, List.not_mem_nil, or_false] at hd
  rcases hd with rfl | rfl | rfl
  · trivial
  · refine ⟨by unfold intsD; rw [List.length_map]; omega, fun d hd => ?_⟩
    obtain ⟨k, _, rfl⟩ := List.mem_map.mp hd
    trivial
  · refine ⟨by rw [List.length_map]; omega, fun d hd => ?_⟩
    obtain ⟨t, ht, rfl⟩ := List.mem_map.mp hd
    have okt := ok.ties t ht
    have r3 := okt.room
    have z1 : sz.getD t.one 0 ≤ 3 := getD_le ok.sz3
    have z2 : sz.getD t.other 0 ≤ 3 := getD_le ok.sz3
    refine ⟨by show 5 ≤ 1000; decide, fun d hd => ?_⟩
    simp only [List.mem_cons, List.not_mem_nil, or_false] at hd
    rcases hd with rfl | rfl | rfl | rfl | rfl
    · trivial
    · trivial
    · trivial
    · exact okD_tab (by rw [okt.fst.len]; omega) fun l hl => by rw [okt.fst.wide l hl]; omega
    · exact okD_tab (by rw [okt.snd.len]; omega) fun l hl => by rw [okt.snd.wide l hl]; omega
theorem okD_up : ∀ {n : Nat} {d : PyData}, okD n d → okD (n + 1) d
  | _, .none, _ => trivial
  | _, .bool _, _ => trivial
  | _, .int _, _ => trivial
  | _, .str _, _ => trivial
  | n + 1, .list ds, ⟨h1, h2⟩ => ⟨h1, fun d hd => okD_up (h2 d hd)⟩
  | n + 1, .tuple ds, ⟨h1, h2⟩ => ⟨h1, fun d hd => okD_up (h2 d hd)⟩
  | 0, .list _, h => h.elim
  | 0, .tuple _, h => h.elim
  | 0, .dict _, h => h.elim
  | _ + 1, .dict _, h => h.elim
theorem law_ok {P : Program} {w : World} {K : PySem.W.Frag} {mg : Str → Option Value} {base : Heap} {f cL PT g : Addr} {CW : Addr × Addr} {oc oc2 kV doc pm ct kV2 doc2 pm2 cdv2 ct2 : Value} {od an od2 an2 : Option Addr} {osl osl2 : Array (Option Value)} {TL : List (Addr × Str)}
    (lk : K.lookup f = some ⟨oc, od, .func (PySem.W.fnOf "law" "law" (defArgs s_law) (defBody s_law) (defScope s_law) .none kV doc pm an (.ref cL) ct), osl⟩) (hcd : PySem.W.codeIn K (.ref cL) "law" = true) (TB : LamX.TabB base mg cL PT) (hTL : (PT, qLam) ∈ TL) (huL : ∀ p ∈ TL, p.1 = PT → p.2 = qLam) (B : Bn mg)
    (W : WhyAt K mg g oc2 od2 kV2 doc2 pm2 an2 cdv2 ct2 osl2) (mW : mg "WebError" = some (.ref CW.1)) (mM : mg "Missing" = some (.ref CW.2)) {f__law_like : Addr} {fd__law_like : FuncData} (D__law_open : Def P w K mg base "_law_open" 1 ["_law_script"] (spOpen K)) (D__law_some_web : Def P w K mg base "_law_some_web" 7 ["_law_box", "_law_most_places", "_law_most_ties", "_law_most_room"] (spSome K)) (D__law_bent_places : Def P w K mg base "_law_bent_places" 3 ["_law_box", "_law_web_here", "_law_places_here"] (spBentP K)) (D__law_good_view : Def P w K mg base "_law_good_view" 1 ["_law_web_here", "_law_places_here"] (spGoodV K)) (D__law_whole : Def P w K mg base "_law_whole" 5 ["_law_box", "_law_web_here"] (spWhole K)) (D__law_cover : Def P w K mg base "_law_cover" 3 ["_law_box", "_law_web_here"] (spLCover K)) (D__law_covers : Def P w K mg base "_law_covers" 1 ["_law_web_here", "_law_one", "_law_other"] (spLCovers K)) (D__law_places : Def P w K mg base "_law_places" 2 ["_law_box", "_law_web_here"] (spLPlaces K)) (D__law_draw : Def P w K mg base "_law_draw" 1 ["_law_box", "_law_many"] (spDraw)) (D__law_bent_columns : Def P w K mg base "_law_bent_columns" 3 ["_law_box", "_law_field_here", "_law_columns"] (spBentC K)) (D__law_are_columns : Def P w K mg base "_law_are_columns" 4 ["_law_field_here", "_law_columns", "_law_rooms"] (spLAreC K)) (D__law_seen_so : Def P w K mg base "_law_seen_so" 10 ["_law_web_here", "_law_places_here", "_law_whole_here", "_law_due"] (spSeenSo K TL)) (D__law_view : Def P w K mg base "_law_view" 1 ["_law_web_here", "_law_places_here"] (spLView K)) (D__law_like : (∀ n, FnOk P w K mg base CX0 (n + 2) f__law_like fd__law_like ["_law_found", "_law_due"] (spLike K n)) ∧ mg "_law_like" = some (.ref f__law_like) ∧ PySem.W.keepIn K (.ref f__law_like) = true ∧ Binds K fd__law_like ["_law_found", "_law_due"] []) (D__law_why : True) (D_covers : DefX P w K mg base "covers" 7 ["web", "one", "other"] (spCoversX K CW)) (D_view : DefX P w K mg base "view" 7 ["web", "places"] (spViewX K CW)) :
    FnOk P w K mg base CX0 13 f (PySem.W.fnOf "law" "law" (defArgs s_law) (defBody s_law) (defScope s_law) .none kV doc pm an (.ref cL) ct) ["_law_script"] (spLawT K TL) := by
  obtain ⟨f__law_open, fd__law_open, G__law_open, m__law_open, k__law_open, b__law_open⟩ := D__law_open
  obtain ⟨f__law_some_web, fd__law_some_web, G__law_some_web, m__law_some_web, k__law_some_web, b__law_some_web⟩ := D__law_some_web
  obtain ⟨f__law_bent_places, fd__law_bent_places, G__law_bent_places, m__law_bent_places, k__law_bent_places, b__law_bent_places⟩ := D__law_bent_places
  obtain ⟨f__law_good_view, fd__law_good_view, G__law_good_view, m__law_good_view, k__law_good_view, b__law_good_view⟩ := D__law_good_view
  obtain ⟨f__law_whole, fd__law_whole, G__law_whole, m__law_whole, k__law_whole, b__law_whole⟩ := D__law_whole
  obtain ⟨f__law_cover, fd__law_cover, G__law_cover, m__law_cover, k__law_cover, b__law_cover⟩ := D__law_cover
  obtain ⟨f__law_covers, fd__law_covers, G__law_covers, m__law_covers, k__law_covers, b__law_covers⟩ := D__law_covers
  obtain ⟨f__law_places, fd__law_places, G__law_places, m__law_places, k__law_places, b__law_places⟩ := D__law_places
  obtain ⟨f__law_draw, fd__law_draw, G__law_draw, m__law_draw, k__law_draw, b__law_draw⟩ := D__law_draw
  obtain ⟨f__law_bent_columns, fd__law_bent_columns, G__law_bent_columns, m__law_bent_columns, k__law_bent_columns, b__law_bent_columns⟩ := D__law_bent_columns
  obtain ⟨f__law_are_columns, fd__law_are_columns, G__law_are_columns, m__law_are_columns, k__law_are_columns, b__law_are_columns⟩ := D__law_are_columns
  obtain ⟨f__law_seen_so, fd__law_seen_so, G__law_seen_so, m__law_seen_so, k__law_seen_so, b__law_seen_so⟩ := D__law_seen_so
  obtain ⟨f__law_view, fd__law_view, G__law_view, m__law_view, k__law_view, b__law_view⟩ := D__law_view
  obtain ⟨f_covers, fd_covers, G_covers, m_covers, k_covers, b_covers⟩ := D_covers
  obtain ⟨f_view, fd_view, G_view, m_view, k_view, b_view⟩ := D_view
  have G__law_like := D__law_like.1 7
  have m__law_like := D__law_like.2.1
  have k__law_like := D__law_like.2.2.1
  have b__law_like := D__law_like.2.2.2
  refine fn_of lk hcd sc_law (fun vs H Q E h => len_law h) (fun A outer s H vs Q E hr hsp => ?_)
  obtain ⟨a, ns, rfl, hS, hT, q⟩ := hsp
  suffices ∃ t, PSs (cxOf CX0 P w K mg base ["_law_script", "_law_box", "_law_web_here", "_law_turn", "_law_places_here", "_law_good", "_law_handed", "_law_due", "_law_whole_here", "_law_place", "_law_one", "_law_other", "_law_hands", "_law_words"] "law" (defScope s_law) f (.ref cL) A outer s H E).nox (defBody s_law) t ∧ t { nx := fun _ H' => Q .non H', rt := Q } (start ["_law_script", "_law_box", "_law_web_here", "_law_turn", "_law_places_here", "_law_good", "_law_handed", "_law_due", "_law_whole_here", "_law_place", "_law_one", "_law_other", "_law_hands", "_law_words"] [.ref a]) H by
    obtain ⟨t, h1, h2⟩ := this
    exact ⟨t, h1.nox, h2⟩
  refine ⟨_, (pss_cons (ps_set (i := 1) sc_law.nd rfl (Or.inl rfl) (pe_call G__law_open (hr.mono (by omega)) (by rfl) m__law_open k__law_open b__law_open .nil pass0 (pa_cons (pv 0) pa_nil))) (pss_cons (ps_set (i := 2) sc_law.nd rfl (Or.inr rfl) (pe_call G__law_some_web (hr.mono (by omega)) (by rfl) m__law_some_web k__law_some_web b__law_some_web .nil pass0 (pa_cons (pv 1) (pa_cons pe_int (pa_cons pe_int (pa_cons pe_int pa_nil)))))) (pss_cons (ps_for PassesOwn.never rfl (pi_range1 (by rfl) B.range (pa_cons pe_int pa_nil)) (pg_name (i := 3) sc_law.nd rfl (Or.inl rfl)) (pss_cons (ps_set (i := 4) sc_law.nd rfl (Or.inl rfl) (pe_call G__law_bent_places (hr.mono (by omega)) (by rfl) m__law_bent_places k__law_bent_places b__law_bent_places .nil pass0 (pa_cons (pv 1) (pa_cons (pv 2) (pa_cons (pe_call G__law_places (hr.mono (by omega)) (by rfl) m__law_places k__law_places b__law_places .nil pass0 (pa_cons (pv 1) (pa_cons (pv 2) pa_nil))) pa_nil))))) (pss_cons (ps_set (i := 5) sc_law.nd rfl (Or.inl rfl) (pe_call G__law_good_view (hr.mono (by omega)) (by rfl) m__law_good_view k__law_good_view b__law_good_view .nil pass0 (pa_cons (pv 2) (pa_cons (pv 4) pa_nil)))) (pss_cons (ps_set (i := 6) sc_law.nd rfl (Or.inr rfl) (pe_callTy call_list_of (by rfl) B.list (by decide +kernel) (pa_cons (pv 4) pa_nil))) (pss_cons (ps_set (i := 7) sc_law.nd rfl (Or.inl rfl) (pe_tup (pa_cons (pe_ifExp (pt_val (pv 5)) (pe_call G__law_view (hr.mono (by omega)) (by rfl) m__law_view k__law_view b__law_view .nil pass0 (pa_cons (pv 2) (pa_cons (pv 4) pa_nil))) pe_non) (pa_cons (pe_ifExp (pt_val (pv 5)) pe_str pe_str) pa_nil)))) (pss_cons (ps_if (PW.pt (L2.pw_or (pt_not (pt_val (pe_call G__law_like (hr.mono (by omega)) (by rfl) m__law_like k__law_like b__law_like .nil pass0 (pa_cons (LamX.pe_lamS (k := 7) (T := TL) (x := "_law_why") (by rfl) W.m W.k W.l W.c W.b sc__law_why rfl (Or.inl rfl) (why_asks rfl mW mM) TB rfl (by exact hTL) (fun p hp e => huL p hp e) (hr.mono (by omega)) (LamX.lamS_by (sc := defScope s_law) (by decide +kernel)) rfl (fun _ _ _ _ _ => rfl) (fun _ _ _ _ E _ _ hr => (pe_call G_view (hr.mono (by omega)) (by rfl) m_view k_view b_view .nil (passes_call (takes_of rfl rfl rfl rfl) (fun _ _ _ _ h => h)) (pa_cons (pv 2) (pa_cons (pv 6) pa_nil))))) (pa_cons (pv 7) pa_nil))))) (pw_or1 (pt_cmpR (op_neD hr.units) (pv 6) (pv 4) (nomark _))))) (pss_one (ps_ret pe_bl)) pss_nil) (pss_cons (ps_set (i := 8) sc_law.nd rfl (Or.inr rfl) (pe_call G__law_whole (hr.mono (by omega)) (by rfl) m__law_whole k__law_whole b__law_whole .nil pass0 (pa_cons (pv 1) (pa_cons (pv 2) pa_nil)))) (pss_cons (ps_if (pt_cmpR op_eq (pe_call G__law_draw (hr.mono (by omega)) (by rfl) m__law_draw k__law_draw b__law_draw .nil pass0 (pa_cons (pv 1) (pa_cons pe_int pa_nil))) pe_int (nomark _)) (pss_one (ps_set (i := 8) sc_law.nd rfl (Or.inr rfl) (pe_call G__law_bent_columns (hr.mono (by omega)) (by rfl) m__law_bent_columns k__law_bent_columns b__law_bent_columns .nil pass0 (pa_cons (pv 1) (pa_cons (pe_ix ix_tup (pv 2) pe_int (fun _ _ => rfl)) (pa_cons (pv 8) pa_nil)))))) pss_nil) (pss_cons (ps_set (i := 7) sc_law.nd rfl (Or.inl rfl) (pe_tup (pa_cons pe_non (pa_cons pe_str pa_nil)))) (pss_cons (ps_if (pt_val (pv 5)) (pss_cons (ps_set (i := 7) sc_law.nd rfl (Or.inl rfl) (pe_tup (pa_cons pe_non (pa_cons pe_str pa_nil)))) (pss_one (ps_if (pt_val (pe_call G__law_are_columns (hr.mono (by omega)) (by rfl) m__law_are_columns k__law_are_columns b__law_are_columns .nil pass0 (pa_cons (pe_ix ix_tup (pv 2) pe_int (fun _ _ => rfl)) (pa_cons (pv 8) (pa_cons (pe_ix ix_tup (pv 2) pe_int (fun _ _ => rfl)) pa_nil))))) (pss_one (ps_set (i := 7) sc_law.nd rfl (Or.inl rfl) (pe_tup (pa_cons (pe_lc (own := [("_law_place", 9)]) (g := gName 9) (tt := tYes) rfl sc_law.nd (pi_list (pv 4)) (blkOk_by (N := ["_law_script", "_law_box", "_law_web_here", "_law_turn", "_law_places_here", "_law_good", "_law_handed", "_law_due", "_law_whole_here", "_law_place", "_law_one", "_law_other", "_law_hands", "_law_words"]) (sc := defScope s_law) (by decide +kernel)) (fun _ _ _ _ _ => pg_name (i := 9) sc_law.nd rfl (Or.inl rfl)) (fun _ _ _ _ _ => pts_nil) (fun _ _ _ _ _ => (pe_ix (show IxR _ (rIxL K) from ix_list) (pv 8) (pv 9) (fun _ _ => rfl)))) (pa_cons pe_str pa_nil))))) pss_nil))) pss_nil) (pss_cons (ps_if (pt_not (pt_val (pe_call G__law_seen_so (hr.mono (by omega)) (by rfl) m__law_seen_so k__law_seen_so b__law_seen_so .nil pass0 (pa_cons (pv 2) (pa_cons (pv 6) (pa_cons (pv 8) (pa_cons (pv 7) pa_nil))))))) (pss_one (ps_ret pe_bl)) pss_nil) (pss_cons (ps_asg (pe_call G__law_cover (hr.mono (by omega)) (by rfl) m__law_cover k__law_cover b__law_cover .nil pass0 (pa_cons (pv 1) (pa_cons (pv 2) pa_nil))) (pg_tup (by rfl) (pgs_cons (pg_name (i := 10) sc_law.nd rfl (Or.inr rfl)) (pgs_cons (pg_name (i := 11) sc_law.nd rfl (Or.inr rfl)) pgs_nil)))) (pss_cons (ps_if (pt_cmpR op_eq (pe_call G__law_draw (hr.mono (by omega)) (by rfl) m__law_draw k__law_draw b__law_draw .nil pass0 (pa_cons (pv 1) (pa_cons pe_int pa_nil))) pe_int (nomark _)) (pss_one (ps_set (i := 11) sc_law.nd rfl (Or.inr rfl) (pe_call G__law_places (hr.mono (by omega)) (by rfl) m__law_places k__law_places b__law_places .nil pass0 (pa_cons (pv 1) (pa_cons (pv 2) pa_nil))))) pss_nil) (pss_cons (ps_set (i := 12) sc_law.nd rfl (Or.inl rfl) (pe_lst (pa_cons (pe_callTy call_list_of (by rfl) B.list (by decide +kernel) (pa_cons (pv 10) pa_nil)) (pa_cons (pe_callTy call_list_of (by rfl) B.list (by decide +kernel) (pa_cons (pv 11) pa_nil)) pa_nil)))) (pss_cons (ps_set (i := 7) sc_law.nd rfl (Or.inl rfl) (pe_call G__law_covers (hr.mono (by omega)) (by rfl) m__law_covers k__law_covers b__law_covers .nil pass0 (pa_cons (pv 2) (pa_cons (pv 10) (pa_cons (pv 11) pa_nil))))) (pss_cons (ps_if (PW.pt (L2.pw_or (pt_not (pt_val (pe_call G__law_like (hr.mono (by omega)) (by rfl) m__law_like k__law_like b__law_like .nil pass0 (pa_cons (pe_call G_covers (hr.mono (by omega)) (by rfl) m_covers k_covers b_covers .nil passL (pa_cons (pv 2) (pa_cons (pe_ix ix_list (pv 12) pe_int (fun _ _ => rfl)) (pa_cons (pe_ix ix_list (pv 12) pe_int (fun _ _ => rfl)) pa_nil)))) (pa_cons (pv 7) pa_nil))))) (pw_or1 (pt_cmpR (op_neD hr.units) (pv 12) (pe_lst (pa_cons (pv 10) (pa_cons (pv 11) pa_nil))) (nomark _))))) (pss_one (ps_ret pe_bl)) pss_nil) (pss_cons (ps_set (i := 13) sc_law.nd rfl (Or.inl rfl) (pe_lst (pa_cons (pe_ix ix_tup (LamX.pe_lamS (k := 7) (T := TL) (x := "_law_why") (by rfl) W.m W.k W.l W.c W.b sc__law_why rfl (Or.inl rfl) (why_asks rfl mW mM) TB rfl (by exact hTL) (fun p hp e => huL p hp e) (hr.mono (by omega)) (LamX.lamS_by (sc := defScope s_law) (by decide +kernel)) rfl (fun _ _ _ _ _ => rfl) (fun _ _ _ _ E _ _ hr => (pe_call G_covers (hr.mono (by omega)) (by rfl) m_covers k_covers b_covers .nil (passes_call (takes_of rfl rfl rfl rfl) (fun _ _ _ _ h => h)) (pa_cons (pv 2) (pa_cons (pv 6) (pa_cons (pv 11) pa_nil)))))) pe_int (fun _ _ => rfl)) (pa_cons (pe_ix ix_tup (LamX.pe_lamS (k := 7) (T := TL) (x := "_law_why") (by rfl) W.m W.k W.l W.c W.b sc__law_why rfl (Or.inl rfl) (why_asks rfl mW mM) TB rfl (by exact hTL) (fun p hp e => huL p hp e) (hr.mono (by omega)) (LamX.lamS_by (sc := defScope s_law) (by decide +kernel)) rfl (fun _ _ _ _ _ => rfl) (fun _ _ _ _ E _ _ hr => (pe_call G_covers (hr.mono (by omega)) (by rfl) m_covers k_covers b_covers .nil (passes_call (takes_of rfl rfl rfl rfl) (fun _ _ _ _ h => h)) (pa_cons (pv 2) (pa_cons (pv 10) (pa_cons (pv 6) pa_nil)))))) pe_int (fun _ _ => rfl)) pa_nil)))) (pss_one (ps_if (pt_cmpR (op_neD hr.units) (pv 13) (pe_op op_rep (pe_lst (pa_cons (pe_ix ix_list (pe_lst (pa_cons pe_str (pa_cons pe_str pa_nil))) (pe_callTy call_int1 (by rfl) B.int (by decide +kernel) (pa_cons (pv 5) pa_nil)) (fun _ _ => rfl)) pa_nil)) pe_int) (nomark _)) (pss_one (ps_ret pe_bl)) pss_nil))))))))))))))))))) (pss_one (ps_ret pe_bl))))), ?_⟩
  have tab0 : LamX.Tabs TL H := fun p hp => LamX.TabS.nil (hT p hp)
  refine ⟨_, rfl, a, ns, rfl, hS, fun H1 box l s1 hb1 => ?_⟩
  have hh1 : Here box l TL H1 := ⟨hb1, tab0.ext s1⟩
  refine gName_go (nx_go ?_)
  refine ⟨_, rfl, box, l, 6, 8, 2, rfl, hh1.box, by decide, by decide, by decide, by decide, fun H2 v f F sz ts st2 hf hW ok => ?_⟩
  have hh2 := hh1.stp st2
  have l8 := ok.len8
  have l12 := ok.len12
  have l0 := ok.len0
  refine gName_go (nx_go ?_)
  refine ⟨3, rfl, by decide, by decide, for_range (lo := 0) (n := (3 : Int).toNat) (fun i σ H' => Here box l TL H' ∧ WebT K H' F v sz ts ∧ ∃ z3 z4 z5 z6 z7 z8 z9 z10 z11 z12 z13, σ = [some (.ref a), some (.ref box), some v, z3, z4, z5, z6, z7, z8, z9, z10, z11, z12, z13]) ⟨hh2, hW, _, _, _, _, _, _, _, _, _, _, _, rfl⟩ ?_ ?_⟩
  rotate_left
  · rintro σ H3 ⟨hh3, hW3, z3, z4, z5, z6, z7, z8, z9, z10, z11, z12, z13, rfl⟩
    exact q _
  rintro i σ H3 hi ⟨hh3, hW3, z3, z4, z5, z6, z7, z8, z9, z10, z11, z12, z13, rfl⟩
  refine ⟨_, rfl, _, rfl, _, rfl, _, rfl, box, l, f, F, v, sz, ts, rfl, hh3.box, hW3, ok, fun H4 r4 P4 st4 n4 f4 e4 hV4 => ?_⟩
  have hh4 := hh3.stp st4
  have hW4 := hW3.tk (Tk.stp (K := K) hh3.box st4)
  refine ⟨box, l, f, F, v, sz, ts, r4, P4, rfl, hh4.box, hW4, ok, n4, e4, hV4, fun H5 r P st5 nr er lP => ?_⟩
  have hh5 := hh4.stp st5
  have hW5 := hW4.tk (Tk.stp (K := K) hh4.box st5)
  clear hW3 hW4 e4 st4 st5
  refine gName_go (nx_go ?_)
  refine ⟨_, rfl, _, rfl, f, F, v, sz, ts, r, P, rfl, hW5, SqL.of er, by omega, fun H6 s6 => ?_⟩
  have hh6 := hh5.same s6
  have hW6 := hW5.tk (Tk.same (K := K) s6)
  have er6 := s6 _ _ er
  refine gName_go (nx_go ?_)
  refine ⟨_, rfl, r, _, rfl, .inl (SqL.of er6), fun Dh nh => ?_⟩
  have s7 := same_new (o := .lst (P.map V.int)) nh
  have eh : (upd H6 Dh (.lst (P.map V.int))) Dh = some (.lst (P.map V.int)) := upd_same
  have mh := hh6.box.ne nh
  have hh7 := hh6.same s7
  have hW7 := hW6.tk (Tk.same (K := K) s7)
  have er7 := s7 _ _ er6
  generalize upd H6 Dh (.lst (P.map V.int)) = H7 at *
  clear hW5 hW6 er er6 s6 s7
  refine gName_go (nx_go (tAsg_mid (fun x H' => ∃ (pd : Addr) (u : V), x = .ref pd ∧ SqT K H' pd [u, .str (if goodV sz P = true then "" else "badview")] ∧ ((goodV sz P = true ∧ ∃ P', P = toI P' ∧ ViewOk sz P' ∧ WebT K H' F u (viewS sz P') (viewT P' ts)) ∨ (goodV sz P = false ∧ u = .non)) ∧ Same H7 H') ?_ fun rest => ?_))
  rotate_left
  · refine ⟨_, rfl, _, rfl, ite2 (fun hg => ?_) (fun hg => ?_)⟩
    · obtain ⟨P', eP, hV⟩ := goodV_view l8 hg
      refine ⟨_, rfl, _, rfl, f, F, v, sz, ts, r, P', rfl, hW7, l12, by rw [← toI_ints, ← eP]; exact SqL.of er7, hV, fun H8 u s8 hu => ?_⟩
      refine ⟨_, rfl, _, rfl, ite2 (fun _ => ?_) (fun z => absurd hg z)⟩
      refine ⟨(by show 2 ≤ sizeLine; decide), fun pd hpd => ?_⟩
      have sp := same_new (o := .tup [u, .str ""]) hpd
      exact rest _ _ ⟨pd, u, rfl, by rw [if_pos hg]; exact SqT.of upd_same, .inl ⟨hg, P', eP, hV, hu.tk (Tk.same sp)⟩, s8.trans sp⟩
    · refine ⟨_, rfl, _, rfl, ite2 (fun z => absurd z hg) (fun _ => ?_)⟩
      refine ⟨(by show 2 ≤ sizeLine; decide), fun pd hpd => ?_⟩
      have sp := same_new (o := .tup [V.non, .str "badview"]) hpd
      exact rest _ _ ⟨pd, .non, rfl, by rw [if_neg hg]; exact SqT.of upd_same, .inr ⟨eq_false_of_ne_true hg, rfl⟩, sp⟩
  rintro _ H8 ⟨pd, u, rfl, hpd, hcase, s8⟩
  have hh8 := hh7.same s8
  have t8 := Tk.same (K := K) s8
  have hW8 := hW7.tk t8
  have eh8 := s8 _ _ eh
  have er8 := s8 _ _ er7
  refine gName_go (nx_go ?_)
  refine if_go (or_go (not_go (b_go (call_go (tCons_mid (fun x H' => ∃ (pz : Addr) (v' : V) (d : PyData), x = .ref pz ∧ SqT K H' pz [v', .str (if goodV sz P = true then "" else "badview")] ∧ Dp K H' v' d ∧ Dp K H' u d ∧ okD 6 d ∧ LamX.ExtN H8 H' ∧ LamX.Tabs TL H') ?_ fun rest => ?_)))))
  rotate_left
  · refine ⟨hh8.tab, fun H9 e9 t9 E R' hE hR => ?_⟩
    have k9 := Tk.extN (K := K) e9
    refine ⟨_, rfl, _, rfl, f, F, v, sz, ts, Dh, P, rfl, hf, hW8.tk k9, ok, SqL.of (e9 _ _ eh8 fun _ z => by cases z), by omega, fun hg => fun C d H10 hC s10 hd => hE C d _ H10 hC hd fun pz hz => ?_, fun hg P' eP hV H10 v' s10 hv' => hR v' H10 fun pz hz => ?_⟩
    · have sp := s10.trans (same_new (o := .tup [.non, .str "badview"]) hz)
      have hu : u = .non := by
        rcases hcase with ⟨h, _⟩ | ⟨_, h⟩
        · rw [hg] at h; cases h
        · exact h
      exact rest _ _ ⟨pz, .non, .none, rfl, by rw [if_neg (by rw [hg]; exact Bool.false_ne_true)]; exact SqT.of upd_same, .non, by rw [hu]; exact .non, trivial, e9.trans (LamX.ExtN.of sp), t9.ext sp⟩
    · have sp := same_new (o := .tup [v', .str ""]) hz
      rcases hcase with ⟨_, P2, eP2, _, hu⟩ | ⟨h, _⟩
      · have eq : P2 = P' := by
          have := eP2.symm.trans eP
          have := congrArg (List.map Int.toNat) this
          rw [toI_nat, toI_nat] at this
          exact this
        subst eq
        exact rest _ _ ⟨pz, v', webD F (viewS sz P2) (viewT P2 ts), rfl, by rw [if_pos hg]; exact SqT.of upd_same, (hv'.tk (Tk.same sp)).dp, (hu.tk (k9.trans (Tk.same (s10.trans sp)))).dp, ok_web (view_web ok hV), e9.trans (LamX.ExtN.of (s10.trans sp)), t9.ext (s10.trans sp)⟩
      · rw [hg] at h; cases h
  rintro _ H9 ⟨pz, v', dd, rfl, hpz, hv', hu, hok, e9, t9⟩
  have hh9 := hh8.extN e9 t9
  have k9 := Tk.extN (K := K) e9
  refine ⟨_, rfl, .ref pz, .ref pd, .tuple [dd, .str (if goodV sz P = true then "" else "badview")], rfl, .tup hpz (.cons hv' (.cons (.str _) .nil)), .tup (k9 _ _ hpd) (.cons hu (.cons (.str _) .nil)), ⟨by show 2 ≤ 1000; decide, fun d hd => ?_⟩, fun H10 s10 => ⟨_, rfl, iteF ?_⟩⟩
  · rcases List.mem_cons.mp hd with rfl | hd
    · exact hok
    · rw [List.mem_singleton.mp hd]
      trivial
  have hh10 := hh9.same s10
  have t10 := (k9).trans (Tk.same (K := K) s10)
  have hW10 := hW8.tk t10
  have eh10 := s10 _ _ (e9 _ _ eh8 fun _ z => by cases z)
  have er10 := s10 _ _ (e9 _ _ er8 fun _ z => by cases z)
  clear hu hv' hpz hpd hcase hok er8 eh8 er7 eh hW8 hW7
  refine ⟨_, rfl, _, rfl, ne_same (.lst (SqL.of eh10) (dp_intsI P)) (.lst (SqL.of er10) (dp_intsI P)) (lay_intsI P) (by decide) ⟨_, rfl, iteF (nx_go ?_)⟩⟩
  refine ⟨_, rfl, _, rfl, box, l, f, F, v, sz, ts, rfl, hh10.box, hf, hW10, ok, fun H11 c0 xs0 C0 st11 nc0 ec0 rC0 lC0 s99 => ?_⟩
  have hh11 := hh10.stp st11
  have k11 := KX.keep st11.keep
  have t11 := k11.tkb (K := K) hh10.box
  have hW11 := hW10.tk t11
  have eh11 := k11.lst mh eh10
  have er11 := k11.lst nr er10
  have lC : C0.length = sz.length := by rw [← lC0, List.length_map]
  have wC : ∀ c ∈ C0, c.length ≤ 3 := fun c hc => ok.sz3 _ (by rw [← lC0]; exact List.mem_map_of_mem hc)
  refine gName_go (nx_go ?_)
  refine tIfS_join (fun σ' H' => ∃ (c : Addr) (xs : List V) (QS : List (List Pr)), c ≠ box ∧ H' c = some (.lst xs) ∧ ColsQ K H' xs QS ∧ QS.length ≤ 101 ∧ (∀ qs ∈ QS, qs.length ≤ 101) ∧ Here box l TL H' ∧ KX box H11 H' ∧ σ' = [some (.ref a), some (.ref box), some v, some (.int (0 + (i : Int))), some (.ref r), some (.bl (goodV sz P)), some (.ref Dh), some (.ref pd), some (.ref c), z9, z10, z11, z12, z13]) ?_ fun rest => ?_
  rotate_left
  · refine ⟨_, rfl, box, l, _, rfl, hh11.box, by decide, by decide +kernel, fun H12 d st12 _ _ => ?_⟩
    have hh12 := hh11.stp st12
    have k12 := KX.keep st12.keep
    have mc0 := hh10.box.ne nc0
    have ec12 := k12.lst mc0 ec0
    have rC12 := rC0.tk (k12.tkb hh11.box)
    have wq : ∀ qs ∈ C0.map fun l => l.map F.enc, qs.length ≤ 100 := fun qs hq => by
      obtain ⟨c, hc, rfl⟩ := List.mem_map.mp hq
      rw [List.length_map]
      have := wC c hc
      omega
    refine ⟨rfl, _, rfl, ite2 (fun _ => ?_) (fun _ => rest _ _ ⟨c0, xs0, C0.map fun l => l.map F.enc, mc0, ec12, rC12.cols, by rw [List.length_map]; omega, fun qs hq => by have := wq qs hq; omega, hh12, k12, rfl⟩)⟩
    obtain ⟨pw, pa, pb, us, rfl, hw, ha, hbt, hT⟩ := id (hW11.tk (k12.tkb hh11.box))
    refine ⟨_, rfl, _, rfl, pw, _, _, _, rfl, rfl, hw, rfl, _, rfl, box, l, f, c0, xs0, _, rfl, hh12.box, hf, SqL.of ec12, mc0, rC12.cols, by rw [List.length_map]; omega, wq, fun H13 D ys QS' st13 nD eD hQ' l1 l2 _ => ?_⟩
    exact rest _ _ ⟨D, ys, QS', hh12.box.ne nD, eD, hQ', l1, l2, hh12.stp st13, k12.trans (KX.keep st13.keep), rfl⟩
  rintro _ H12 ⟨c, xs, QS, nc, ec, hQ, lQ, wQ, hh12, k12, rfl⟩
  have t12 := k12.tkb (K := K) hh11.box
  have hW12 := hW11.tk t12
  have eh12 := k12.lst mh eh11
  have er12 := k12.lst nr er11
  clear rC0 ec0 nc0 hW11 hW10 eh11 eh10 er11 er10 t11 t12 t10
  refine nx_go ?_
  refine ⟨(by show 2 ≤ sizeLine; decide), fun p1 h1 => gName_go (nx_go ?_)⟩
  have sp1 := same_new (o := .tup [V.non, .str "badview"]) h1
  have ep1 : SqT K (upd H12 p1 (.tup [V.non, .str "badview"])) p1 [.non, .str "badview"] := SqT.of upd_same
  have hh13 := hh12.same sp1
  have hW13 := hW12.tk (Tk.same (K := K) sp1)
  have eh13 := sp1 _ _ eh12
  have er13 := sp1 _ _ er12
  have ec13 := sp1 _ _ ec
  have hQ13 := hQ.tk (Tk.same (K := K) sp1)
  generalize upd H12 p1 (.tup [V.non, .str "badview"]) = H13 at *
  refine tIfS_join (fun σ' H' => ∃ (pe : Addr) (ue : V), SqT K H' pe [ue, .str (seenWord f sz P QS)] ∧ SeenDue K H' box f sz P QS ue ∧ Same H13 H' ∧ σ' = [some (.ref a), some (.ref box), some v, some (.int (0 + (i : Int))), some (.ref r), some (.bl (goodV sz P)), some (.ref Dh), some (.ref pe), some (.ref c), z9, z10, z11, z12, z13]) ?_ fun rest => ?_
  rotate_left
  · refine ⟨_, rfl, _, rfl, ite2 (fun hg => ?_) (fun hg => ?_)⟩
    rotate_left
    · have ew : seenWord f sz P QS = "badview" := by unfold seenWord; rw [if_neg hg]
      exact rest _ _ ⟨p1, .non, by rw [ew]; exact ep1, .inl ⟨by rw [ew]; decide, rfl⟩, Same.refl _, rfl⟩
    obtain ⟨P', eP, hV⟩ := goodV_view l8 hg
    refine ⟨(by show 2 ≤ sizeLine; decide), fun p2 h2 => gName_go (nx1_go ?_)⟩
    have sp2 := same_new (o := .tup [V.non, .str "badwhole"]) h2
    have ep2 : SqT K (upd H13 p2 (.tup [V.non, .str "badwhole"])) p2 [.non, .str "badwhole"] := SqT.of upd_same
    obtain ⟨pw, pa, pb, us, rfl, hw, ha, hbt, hT⟩ := id (hW13.tk (Tk.same (K := K) sp2))
    refine ⟨_, rfl, pw, _, _, _, rfl, rfl, hw, rfl, _, rfl, _, rfl, pw, _, _, _, rfl, rfl, hw, rfl, f, true, c, pa, xs, QS, sz, rfl, hf.nn, SqL.of (sp2 _ _ ec13), hQ13.tk (Tk.same sp2), ha, by omega, by omega, fun qs hq => by have := wQ qs hq; omega, fun H14 s14 => ⟨_, rfl, ite2 (fun ho => ?_) (fun ho => ?_)⟩⟩
    rotate_left
    · have ew : seenWord f sz P QS = "badwhole" := by unfold seenWord; rw [if_pos hg, if_neg ho]
      exact rest _ _ ⟨p2, .non, by rw [ew]; exact Same.seqT s14 ep2, .inl ⟨by rw [ew]; decide, rfl⟩, sp2.trans s14, rfl⟩
    have ew : seenWord f sz P QS = "" := by unfold seenWord; rw [if_pos hg, if_pos ho]
    have s1314 := sp2.trans s14
    have er14 := s1314 _ _ er13
    have ec14 := s1314 _ _ ec13
    have hQ14 := hQ13.tk (Tk.same (K := K) s1314)
    have hr14 : SqL K H14 r (intsV P') := by
      rw [← toI_ints, ← eP]
      exact SqL.of er14
    have lC2 : QS.length = sz.length := by
      unfold okCols at ho
      rw [Bool.and_eq_true] at ho
      exact of_decide_eq_true ho.1
    refine ⟨_, rfl, r, rfl, ⟨_, hr14⟩, fun D hD => lc_list (K := K) (a := r) (xs := intsV P') (fun i H' => Same H14 H' ∧ ∃ zs, H' D = some (.lst zs) ∧ ColsQ K H' zs ((seenQ P' QS).take i)) ⟨same_new hD, [], upd_same, .nil⟩ (fun i H' _ ⟨s, _⟩ => s.seq hr14) ?_ ?_⟩
    · rintro j x H15 hj ⟨s15, zs, hz, hzs⟩
      have p8 := hV.2.2.2
      have hil := (List.getElem?_eq_some_iff.mp hj).1
      have lI : (intsV P').length = P'.length := List.length_map ..
      unfold intsV at hj
      rw [List.getElem?_map] at hj
      obtain ⟨p, hp, rfl⟩ := Option.map_eq_some_iff.mp hj
      have hps := hV.2.2.1 p (List.mem_of_getElem? hp)
      have ecq : QS[p]? = some (QS.getD p []) := by
        rw [List.getD_eq_getElem?_getD, List.getElem?_eq_getElem (show p < QS.length by omega)]
        rfl
      obtain ⟨x, hx, hxr⟩ := (hQ14.tk (Tk.same (K := K) s15)).pickQ ecq
      have lz := hzs.len
      rw [List.length_take] at lz
      refine ⟨rfl, tYes_of (iteT ⟨_, rfl, _, rfl, c, xs, _, x, rfl, rfl, SqL.of (s15 _ _ ec14), atI_nat hx, zs, hz, small1000 (by omega), same_seqT_upd s15 hD hz, zs ++ [x], upd_same, ?_⟩)⟩
      have e : (seenQ P' QS)[j]? = some (QS.getD p []) := by
        unfold seenQ
        rw [List.getElem?_map, hp]
        rfl
      rw [List.take_add_one, e]
      exact (ColsQ.snoc hxr hzs).tk (Tk.put hz)
    rintro H15 ⟨s15, zs, hz, hzs⟩
    have lS : (intsV P').length = (seenQ P' QS).length := by
      unfold intsV seenQ
      rw [List.length_map, List.length_map]
    rw [lS, List.take_length] at hzs
    refine ⟨(by show 2 ≤ sizeLine; decide), fun p3 h3 => ?_⟩
    have sp3 := same_new (o := .tup [V.ref D, .str ""]) h3
    have mD : D ≠ box := ((hh13.same s1314).box).ne hD
    exact rest _ _ ⟨p3, .ref D, by rw [ew]; exact SqT.of upd_same, .inr ⟨ew, P', D, zs, eP, rfl, mD, sp3 _ _ hz, hzs.tk (Tk.same sp3)⟩, (s1314.trans s15).trans sp3, rfl⟩
  rintro _ H14 ⟨pe, ue, hpe, hdue, s14, rfl⟩
  have hh14 := hh13.same s14
  have t14 := Tk.same (K := K) s14
  have hW14 := hW13.tk t14
  have eh14 := s14 _ _ eh13
  have er14 := s14 _ _ er13
  refine nx_go ?_
  refine ⟨_, rfl, _, rfl, _, rfl, _, rfl, box, l, f, F, v, sz, ts, Dh, c, pe, P, xs, QS, ue, rfl, hh14, hf, hW14, ok, mh, eh14, by omega, nc, s14 _ _ ec13, hQ13.tk t14, by omega, fun qs hq => by have := wQ qs hq; omega, hpe, hdue, fun H15 hh15 k15 => ⟨_, rfl, iteF (nx_go ?_)⟩⟩
  have t15 := k15.tkb (K := K) hh14.box
  have hW15 := hW14.tk t15
  have eh15 := k15.lst mh eh14
  clear hpe hdue hQ13 ec13 hQ ec hW14 hW13 hW12 eh14 eh13 eh12 er12 er13 er14 k15 t15 t14
  refine ⟨_, rfl, _, rfl, box, l, f, F, v, sz, ts, rfl, hh15.box, hW15, ok, fun H16 pq oa ob LA LB st16 hpq na nb ea eb hVA hVB => ?_⟩
  have hh16 := hh15.stp st16
  have hW16 := hW15.tk (Tk.stp (K := K) hh15.box st16)
  have eh16 := st16.keep _ _ mh eh15
  refine ⟨pq, _, rfl, hpq, rfl, _, _, rfl, _, _, rfl, rfl, nx_go ?_⟩
  refine tIfS_join (fun σ' H' => ∃ (ob : Addr) (LB : List Nat), ob ≠ box ∧ H' ob = some (.lst (intsV LB)) ∧ ViewOk sz LB ∧ Here box l TL H' ∧ KX box H16 H' ∧ σ' = [some (.ref a), some (.ref box), some v, some (.int (0 + (i : Int))), some (.ref r), some (.bl (goodV sz P)), some (.ref Dh), some (.ref pe), some (.ref c), z9, some (.ref oa), some (.ref ob), z12, z13]) ?_ fun rest => ?_
  rotate_left
  · refine ⟨_, rfl, box, l, _, rfl, hh16.box, by decide, by decide +kernel, fun H17 d st17 _ _ => ?_⟩
    have hh17 := hh16.stp st17
    have k17 := KX.keep st17.keep
    refine ⟨rfl, _, rfl, ite2 (fun _ => ?_) (fun _ => rest _ _ ⟨ob, LB, nb, k17.lst nb eb, hVB, hh17, k17, rfl⟩)⟩
    exact ⟨_, rfl, _, rfl, box, l, f, F, v, sz, ts, rfl, hh17.box, hW16.tk (k17.tkb hh16.box), ok, fun H18 r8 P8 st18 n8 f8 e8 hV8 => rest _ _ ⟨r8, P8, n8, e8, hV8, hh17.stp st18, k17.trans (KX.keep st18.keep), rfl⟩⟩
  rintro _ H17 ⟨ob, LB, nb, eb, hVB, hh17, k17, rfl⟩
  have hW17 := hW16.tk (k17.tkb hh16.box)
  have eh17 := k17.lst mh eh16
  have ea17 := k17.lst na ea
  clear hW16 hW15 eh15 eh16 ea k17 hpq
  refine nx_go ?_
  refine ⟨_, rfl, oa, _, rfl, .inl (SqL.of ea17), fun Da nDa => ?_⟩
  have sa := same_new (o := .lst (intsV LA)) nDa
  refine ⟨_, rfl, ob, _, rfl, .inl (SqL.of (sa _ _ eb)), fun Db nDb => ?_⟩
  have sb := same_new (o := .lst (intsV LB)) nDb
  refine ⟨(by show 2 ≤ sizeLine; decide), fun Kh nKh => ?_⟩
  have sk := same_new (o := .lst [V.ref Da, .ref Db]) nKh
  have eDa : (upd (upd (upd H17 Da (.lst (intsV LA))) Db (.lst (intsV LB))) Kh (.lst [V.ref Da, .ref Db])) Da = some (.lst (intsV LA)) := (sb.trans sk) _ _ upd_same
  have eDb : (upd (upd (upd H17 Da (.lst (intsV LA))) Db (.lst (intsV LB))) Kh (.lst [V.ref Da, .ref Db])) Db = some (.lst (intsV LB)) := sk _ _ upd_same
  have eK : (upd (upd (upd H17 Da (.lst (intsV LA))) Db (.lst (intsV LB))) Kh (.lst [V.ref Da, .ref Db])) Kh = some (.lst [V.ref Da, .ref Db]) := upd_same
  have sabk := (sa.trans sb).trans sk
  generalize upd (upd (upd H17 Da (.lst (intsV LA))) Db (.lst (intsV LB))) Kh (.lst [V.ref Da, .ref Db]) = H18 at *
  have hh18 := hh17.same sabk
  have hW18 := hW17.tk (Tk.same (K := K) sabk)
  have eh18 := sabk _ _ eh17
  have ea18 := sabk _ _ ea17
  have eb18 := sabk _ _ eb
  refine gName_go (nx_go ?_)
  refine ⟨_, rfl, _, rfl, _, rfl, f, F, v, sz, ts, oa, ob, LA, LB, rfl, hW18, by omega, by omega, SqL.of ea18, SqL.of eb18, fun H19 s19 => gName_go (nx_go ?_)⟩
  have hh19 := hh18.same s19
  have hW19 := hW18.tk (Tk.same (K := K) s19)
  have eh19 := s19 _ _ eh18
  have ea19 := s19 _ _ ea18
  have eb19 := s19 _ _ eb18
  have eK19 := s19 _ _ eK
  have eDa19 := s19 _ _ eDa
  have eDb19 := s19 _ _ eDb
  have lLA := hVA.2.2.2
  have lLB := hVB.2.2.2
  have tA : (toI LA).length = LA.length := List.length_map ..
  have tB : (toI LB).length = LB.length := List.length_map ..
  have gA := view_good hVA
  have gB := view_good hVB
  clear hW18 hW17 eh18 eh17 ea18 ea17 eb18 eb eK eDa eDb
  refine ⟨_, rfl, _, rfl, Kh, _, _, _, rfl, rfl, SqL.of eK19, atI_nat (j := 0) rfl, _, rfl, Kh, _, _, _, rfl, rfl, SqL.of eK19, atI_nat (j := 1) rfl, ?_⟩
  refine ⟨f, F, v, sz, ts, Da, Db, toI LA, toI LB, rfl, hf, hW19, ok, by rw [toI_ints]; exact SqL.of eDa19, by rw [toI_ints]; exact SqL.of eDb19, by omega, by omega, fun z => by (rw [gA, gB] at z; cases z), fun _ L1 L2 e1 e2 H20 s20 => ?_⟩
  have q1 : L1 = LA := by
    have := congrArg (List.map Int.toNat) e1
    rw [toI_nat, toI_nat] at this
    exact this.symm
  have q2 : L2 = LB := by
    have := congrArg (List.map Int.toNat) e2
    rw [toI_nat, toI_nat] at this
    exact this.symm
  subst q1 q2
  refine ⟨_, rfl, _, _, .bool (covB sz.length ts L1 L2), rfl, .bl _, .bl _, trivial, fun H21 s21 => ⟨_, rfl, iteF ?_⟩⟩
  have s1921 := s20.trans s21
  have hh21 := hh19.same s1921
  have hW21 := hW19.tk (Tk.same (K := K) s1921)
  have eh21 := s1921 _ _ eh19
  have ea21 := s1921 _ _ ea19
  have eb21 := s1921 _ _ eb19
  refine ⟨_, rfl, _, rfl, _, rfl, (by show 2 ≤ sizeLine; decide), fun p2 hp2 => ?_⟩
  have sp2 := same_new (o := .lst [V.ref oa, .ref ob]) hp2
  have dpn : ∀ {H : Hp} {x : Addr} (P : List Nat), H x = some (.lst (intsV P)) → Dp K H (.ref x) (.list ((toI P).map PyData.int)) := fun P h => .lst (SqL.of h) (by rw [← toI_ints]; exact dp_intsI _)
  have layB : LayN 2 (.list [.list ((toI L1).map PyData.int), .list ((toI L2).map PyData.int)]) := lay_list fun d hd => by
    simp only [List.mem_cons, List.not_mem_nil, or_false] at hd
    rcases hd with rfl | rfl <;> exact lay_intsI _
  refine ne_same (.lst (SqL.of ((s1921.trans sp2) _ _ eK19)) (.cons (dpn L1 ((s1921.trans sp2) _ _ eDa19)) (.cons (dpn L2 ((s1921.trans sp2) _ _ eDb19)) .nil))) (.lst (SqL.of upd_same) (.cons (dpn L1 (sp2 _ _ ea21)) (.cons (dpn L2 (sp2 _ _ eb21)) .nil))) layB (by decide) ⟨_, rfl, iteF (nx_go ?_)⟩
  have hh22 := hh21.same sp2
  have hW22 := hW21.tk (Tk.same (K := K) sp2)
  have eh22 := sp2 _ _ eh21
  have ea22 := sp2 _ _ ea21
  have eb22 := sp2 _ _ eb21
  generalize upd H21 p2 (.lst [V.ref oa, .ref ob]) = H22 at *
  clear hW21 hW19 eh21 eh19 ea21 ea19 eb21 eb19 eK19 eDa19 eDb19 sp2 s1921 s20 s21 dpn
  refine asg_go (lst2_go (te_mid (fun x H' => x = .str (if goodV sz P = true then "" else "badview") ∧ LamX.ExtN H22 H' ∧ LamX.Tabs TL H') ?_ fun rest => ?_))
  rotate_left
  · refine ⟨hh22.tab, fun H23 e1 t1 E R' hE hR => ?_⟩
    have k1 := Tk.extN (K := K) e1
    refine ⟨_, rfl, _, rfl, _, rfl, f, F, v, sz, ts, Dh, ob, P, toI L2, rfl, hf, hW22.tk k1, ok, SqL.of (e1 _ _ eh22 fun _ z => by cases z), by rw [toI_ints]; exact SqL.of (e1 _ _ eb22 fun _ z => by cases z), by omega, by omega, fun hg => fun C d H24 hC s24 hd => hE C d _ H24 hC hd fun pz hz => ?_, fun hg LA' LB' _ _ H24 s24 => hR _ H24 fun pz hz => ?_⟩
    · have sp := s24.trans (same_new (o := .tup [.non, .str "badview"]) hz)
      rw [gB, Bool.and_true] at hg
      exact ⟨pz, _, _, _, rfl, rfl, SqT.of upd_same, at1 _ _, rest _ _ ⟨by rw [hg]; rfl, e1.trans (LamX.ExtN.of sp), t1.ext sp⟩⟩
    · have sp := s24.trans (same_new (o := .tup [.bl (covB sz.length ts LA' LB'), .str ""]) hz)
      rw [gB, Bool.and_true] at hg
      exact ⟨pz, _, _, _, rfl, rfl, SqT.of upd_same, at1 _ _, rest _ _ ⟨by rw [hg]; rfl, e1.trans (LamX.ExtN.of sp), t1.ext sp⟩⟩
  rintro _ H23 ⟨rfl, e23, t23⟩
  have hh23 := hh22.extN e23 t23
  have k23 := Tk.extN (K := K) e23
  have hW23 := hW22.tk k23
  have eh23 := e23 _ _ eh22 fun _ z => by cases z
  have ea23 := e23 _ _ ea22 fun _ z => by cases z
  refine te_mid (fun x H' => x = .str (if goodV sz P = true then "" else "badview") ∧ LamX.ExtN H23 H' ∧ LamX.Tabs TL H') ?_ fun rest => ?_
  rotate_left
  · refine ⟨hh23.tab, fun H24 e1 t1 E R' hE hR => ?_⟩
    have k1 := Tk.extN (K := K) e1
    refine ⟨_, rfl, _, rfl, _, rfl, f, F, v, sz, ts, oa, Dh, toI L1, P, rfl, hf, hW23.tk k1, ok, by rw [toI_ints]; exact SqL.of (e1 _ _ ea23 fun _ z => by cases z), SqL.of (e1 _ _ eh23 fun _ z => by cases z), by omega, by omega, fun hg => fun C d H25 hC s25 hd => hE C d _ H25 hC hd fun pz hz => ?_, fun hg LA' LB' _ _ H25 s25 => hR _ H25 fun pz hz => ?_⟩
    · have sp := s25.trans (same_new (o := .tup [.non, .str "badview"]) hz)
      rw [gA, Bool.true_and] at hg
      exact ⟨pz, _, _, _, rfl, rfl, SqT.of upd_same, at1 _ _, rest _ _ ⟨by rw [hg]; rfl, e1.trans (LamX.ExtN.of sp), t1.ext sp⟩⟩
    · have sp := s25.trans (same_new (o := .tup [.bl (covB sz.length ts LA' LB'), .str ""]) hz)
      rw [gA, Bool.true_and] at hg
      exact ⟨pz, _, _, _, rfl, rfl, SqT.of upd_same, at1 _ _, rest _ _ ⟨by rw [hg]; rfl, e1.trans (LamX.ExtN.of sp), t1.ext sp⟩⟩
  rintro _ H24 ⟨rfl, e24, t24⟩
  have hh24 := hh23.extN e24 t24
  have hW24 := hW23.tk (Tk.extN (K := K) e24)
  refine ⟨(by show 2 ≤ sizeLine; decide), fun pl hpl => gName_go (nx1_go ?_)⟩
  have sl := same_new (o := .lst [V.str (if goodV sz P = true then "" else "badview"), .str (if goodV sz P = true then "" else "badview")]) hpl
  have el : (upd H24 pl (.lst [V.str (if goodV sz P = true then "" else "badview"), .str (if goodV sz P = true then "" else "badview")])) pl = some (.lst [V.str (if goodV sz P = true then "" else "badview"), .str (if goodV sz P = true then "" else "badview")]) := upd_same
  have hh25 := hh24.same sl
  have hW25 := hW24.tk (Tk.same (K := K) sl)
  generalize upd H24 pl (.lst [V.str (if goodV sz P = true then "" else "badview"), .str (if goodV sz P = true then "" else "badview")]) = H25 at *
  refine ⟨_, rfl, (by show 2 ≤ sizeLine; decide), fun pm hpm => ?_⟩
  have sm := same_new (o := .lst [V.str "badview", .str ""]) hpm
  have em : (upd H25 pm (.lst [V.str "badview", .str ""])) pm = some (.lst [V.str "badview", .str ""]) := upd_same
  have el := sm _ _ el
  have hh26 := hh25.same sm
  have hW26 := hW25.tk (Tk.same (K := K) sm)
  generalize upd H25 pm (.lst [V.str "badview", .str ""]) = H26 at *
  refine ⟨_, rfl, ?_⟩
  refine .inr ⟨_, rfl, ?_⟩
  have hat : ∀ (k : Bool), atI [V.str "badview", .str ""] (if k = true then 1 else 0) = some (V.str (if k = true then "" else "badview")) := fun k => by cases k <;> rfl
  refine ⟨pm, _, _, _, rfl, rfl, SqL.of em, hat _, ?_⟩
  refine ⟨(by show 1 ≤ sizeLine; decide), fun pn hpn => ?_⟩
  have sn := same_new (o := .lst [V.str (if goodV sz P = true then "" else "badview")]) hpn
  have en : (upd H26 pn (.lst [V.str (if goodV sz P = true then "" else "badview")])) pn = some (.lst [V.str (if goodV sz P = true then "" else "badview")]) := upd_same
  have el := sn _ _ el
  have hh27 := hh26.same sn
  have hW27 := hW26.tk (Tk.same (K := K) sn)
  generalize upd H26 pn (.lst [V.str (if goodV sz P = true then "" else "badview")]) = H27 at *
  refine ⟨pn, 2, _, rfl, rfl, en, by decide, by decide, (by show 2 * 1 ≤ sizeLine; decide), fun po hpo => ?_⟩
  have so := same_new (o := .lst (List.replicate (Int.toNat 2) [V.str (if goodV sz P = true then "" else "badview")]).flatten) hpo
  have lw : LayN 1 (.list [.str (if goodV sz P = true then "" else "badview"), .str (if goodV sz P = true then "" else "badview")]) := by
    cases goodV sz P <;> exact lay2 _ (by decide +kernel)
  refine ne_same (.lst (SqL.of (so _ _ el)) (.cons (.str _) (.cons (.str _) .nil))) (.lst (SqL.of upd_same) (.cons (.str _) (.cons (.str _) .nil))) lw (by decide) ⟨_, rfl, iteF ?_⟩
  exact ⟨hh27.same so, hW27.tk (Tk.same (K := K) so), _, _, _, _, _, _, _, _, _, _, _, rfl⟩

theorem exm_of {K : PySem.W.Frag} {C S : Addr} {b : Bool} (h1 : PySem.W.subIn K (.ref S) (.type "BaseException") = some true) (h2 : PySem.W.isClsIn K S = true) (h3 : PySem.W.typeIn K (.ref S) = some (.type "type")) (h4 : PySem.W.subIn K (.ref C) (.ref S) = some b) : PySem.W.exmOne K (.ref C) (.ref S) = some b := by
  have e1 : (PySem.W.subIn K (.ref S) (.type "BaseException") == some true) = true := by
    rw [h1]
    rfl
  have e2 : ((PySem.W.clsIn K S).isSome && PySem.W.typeIn K (.ref S) == some (.type "type")) = true := by
    have h2 : (PySem.W.clsIn K S).isSome = true := h2
    rw [h2, h3]
    rfl
  unfold PySem.W.exmOne
  rw [if_pos e1]
  unfold PySem.W.kitCls
  first
    | exact h4
    | (rw [if_pos e2]; exact h4)
    | (simp only [e2, if_true]; exact h4)
    | (dsimp only; rw [if_pos e2]; exact h4)
theorem over_of {K : PySem.W.Frag} {nm q : Str} {C N : Addr} {bs bm : List Value} {sn : List Str} {sub : List Value} {ab : Bool} {col : Option Bool} {dd : Option Addr} {k0 k1 k2 k3 k5 : Option Value} {id : String} (hC : K.lookup C = some (excClassObj nm q C N bs bm true sn sub ab col dd k0 k1 k2 k3 k5 id)) (ht : PySem.W.excTail leMro bm = true) : PySem.W.excOver K C leMro = true := by
  have hcl : PySem.W.clsIn K C = some { name := nm, bases := bs, mro := .ref C :: bm, ns := N, qualname := q, hasDict := true, slotNames := sn, subclasses := sub, abstract := ab, collection := col, hasDel := false } := by unfold PySem.W.clsIn; rw [hC] <;> rfl
  unfold PySem.W.excOver
  rw [hcl]
  show (C == C && PySem.W.excTail leMro bm) = true
  rw [ht, Bool.and_true]
  exact beq_self_eq_true C
theorem all_mk {l : PySem.W.OpenLaw} {w : World} {K : PySem.W.Frag} {h : Heap} {mg : Str → Option Value} {fa : Addr} (X : K.In h) (G : h.Ns mainGlobals mg) (hfa : mg "law" = some (.ref fa)) (OT : LamX.OwnTabs K mg ["law", "_law_seen_so"] h)
    {CW CM : Addr}
    {f__law_open : Addr} {od__law_open an__law_open : Option Addr} {sl__law_open : Array (Option Value)} {oc__law_open kV__law_open dc__law_open pm__law_open cd__law_open ct__law_open : Value}
    {f__law_draw : Addr} {od__law_draw an__law_draw : Option Addr} {sl__law_draw : Array (Option Value)} {oc__law_draw kV__law_draw dc__law_draw pm__law_draw cd__law_draw ct__law_draw : Value}
    {f__law_any : Addr} {od__law_any an__law_any : Option Addr} {sl__law_any : Array (Option Value)} {oc__law_any kV__law_any dc__law_any pm__law_any cd__law_any ct__law_any : Value}
    {f__law_primes : Addr} {od__law_primes an__law_primes : Option Addr} {sl__law_primes : Array (Option Value)} {oc__law_primes kV__law_primes dc__law_primes pm__law_primes cd__law_primes ct__law_primes : Value}
    {f__law_field : Addr} {od__law_field an__law_field : Option Addr} {sl__law_field : Array (Option Value)} {oc__law_field kV__law_field dc__law_field pm__law_field cd__law_field ct__law_field : Value}
    {f__law_gcd : Addr} {od__law_gcd an__law_gcd : Option Addr} {sl__law_gcd : Array (Option Value)} {oc__law_gcd kV__law_gcd dc__law_gcd pm__law_gcd cd__law_gcd ct__law_gcd : Value}
    {f__law_num : Addr} {od__law_num an__law_num : Option Addr} {sl__law_num : Array (Option Value)} {oc__law_num kV__law_num dc__law_num pm__law_num cd__law_num ct__law_num : Value}
    {f__law_number : Addr} {od__law_number an__law_number : Option Addr} {sl__law_number : Array (Option Value)} {oc__law_number kV__law_number dc__law_number pm__law_number cd__law_number ct__law_number : Value}
    {f__law_row : Addr} {od__law_row an__law_row : Option Addr} {sl__law_row : Array (Option Value)} {oc__law_row kV__law_row dc__law_row pm__law_row cd__law_row ct__law_row : Value}
    {f__law_nothing : Addr} {od__law_nothing an__law_nothing : Option Addr} {sl__law_nothing : Array (Option Value)} {oc__law_nothing kV__law_nothing dc__law_nothing pm__law_nothing cd__law_nothing ct__law_nothing : Value}
    {f__law_end_table : Addr} {od__law_end_table an__law_end_table : Option Addr} {sl__law_end_table : Array (Option Value)} {oc__law_end_table kV__law_end_table dc__law_end_table pm__law_end_table cd__law_end_table ct__law_end_table : Value}
    {f__law_web : Addr} {od__law_web an__law_web : Option Addr} {sl__law_web : Array (Option Value)} {oc__law_web kV__law_web dc__law_web pm__law_web cd__law_web ct__law_web : Value}
    {f__law_plus : Addr} {od__law_plus an__law_plus : Option Addr} {sl__law_plus : Array (Option Value)} {oc__law_plus kV__law_plus dc__law_plus pm__law_plus cd__law_plus ct__law_plus : Value}
    {f__law_added : Addr} {od__law_added an__law_added : Option Addr} {sl__law_added : Array (Option Value)} {oc__law_added kV__law_added dc__law_added pm__law_added cd__law_added ct__law_added : Value}
    {f__law_times : Addr} {od__law_times an__law_times : Option Addr} {sl__law_times : Array (Option Value)} {oc__law_times kV__law_times dc__law_times pm__law_times cd__law_times ct__law_times : Value}
    {f__law_scaled : Addr} {od__law_scaled an__law_scaled : Option Addr} {sl__law_scaled : Array (Option Value)} {oc__law_scaled kV__law_scaled dc__law_scaled pm__law_scaled cd__law_scaled ct__law_scaled : Value}
    {f__law_less : Addr} {od__law_less an__law_less : Option Addr} {sl__law_less : Array (Option Value)} {oc__law_less kV__law_less dc__law_less pm__law_less cd__law_less ct__law_less : Value}
    {f__law_turning_table : Addr} {od__law_turning_table an__law_turning_table : Option Addr} {sl__law_turning_table : Array (Option Value)} {oc__law_turning_table kV__law_turning_table dc__law_turning_table pm__law_turning_table cd__law_turning_table ct__law_turning_table : Value}
    {f__law_stiff_web : Addr} {od__law_stiff_web an__law_stiff_web : Option Addr} {sl__law_stiff_web : Array (Option Value)} {oc__law_stiff_web kV__law_stiff_web dc__law_stiff_web pm__law_stiff_web cd__law_stiff_web ct__law_stiff_web : Value}
    {f__law_some_web : Addr} {od__law_some_web an__law_some_web : Option Addr} {sl__law_some_web : Array (Option Value)} {oc__law_some_web kV__law_some_web dc__law_some_web pm__law_some_web cd__law_some_web ct__law_some_web : Value}
    {f__law_bent_places : Addr} {od__law_bent_places an__law_bent_places : Option Addr} {sl__law_bent_places : Array (Option Value)} {oc__law_bent_places kV__law_bent_places dc__law_bent_places pm__law_bent_places cd__law_bent_places ct__law_bent_places : Value}
    {f__law_good_view : Addr} {od__law_good_view an__law_good_view : Option Addr} {sl__law_good_view : Array (Option Value)} {oc__law_good_view kV__law_good_view dc__law_good_view pm__law_good_view cd__law_good_view ct__law_good_view : Value}
    {f__law_whole : Addr} {od__law_whole an__law_whole : Option Addr} {sl__law_whole : Array (Option Value)} {oc__law_whole kV__law_whole dc__law_whole pm__law_whole cd__law_whole ct__law_whole : Value}
    {f__law_places : Addr} {od__law_places an__law_places : Option Addr} {sl__law_places : Array (Option Value)} {oc__law_places kV__law_places dc__law_places pm__law_places cd__law_places ct__law_places : Value}
    {f__law_cover : Addr} {od__law_cover an__law_cover : Option Addr} {sl__law_cover : Array (Option Value)} {oc__law_cover kV__law_cover dc__law_cover pm__law_cover cd__law_cover ct__law_cover : Value}
    {f__law_covers : Addr} {od__law_covers an__law_covers : Option Addr} {sl__law_covers : Array (Option Value)} {oc__law_covers kV__law_covers dc__law_covers pm__law_covers cd__law_covers ct__law_covers : Value}
    {f__law_bent_columns : Addr} {od__law_bent_columns an__law_bent_columns : Option Addr} {sl__law_bent_columns : Array (Option Value)} {oc__law_bent_columns kV__law_bent_columns dc__law_bent_columns pm__law_bent_columns cd__law_bent_columns ct__law_bent_columns : Value}
    {f__law_is_number : Addr} {od__law_is_number an__law_is_number : Option Addr} {sl__law_is_number : Array (Option Value)} {oc__law_is_number kV__law_is_number dc__law_is_number pm__law_is_number cd__law_is_number ct__law_is_number : Value}
    {f__law_numbers_good : Addr} {od__law_numbers_good an__law_numbers_good : Option Addr} {sl__law_numbers_good : Array (Option Value)} {oc__law_numbers_good kV__law_numbers_good dc__law_numbers_good pm__law_numbers_good cd__law_numbers_good ct__law_numbers_good : Value}
    {f__law_are_columns : Addr} {od__law_are_columns an__law_are_columns : Option Addr} {sl__law_are_columns : Array (Option Value)} {oc__law_are_columns kV__law_are_columns dc__law_are_columns pm__law_are_columns cd__law_are_columns ct__law_are_columns : Value}
    {f__law_why : Addr} {od__law_why an__law_why : Option Addr} {sl__law_why : Array (Option Value)} {oc__law_why kV__law_why dc__law_why pm__law_why cd__law_why ct__law_why : Value}
    {f__law_int : Addr} {od__law_int an__law_int : Option Addr} {sl__law_int : Array (Option Value)} {oc__law_int kV__law_int dc__law_int pm__law_int cd__law_int ct__law_int : Value}
    {f__law_like : Addr} {od__law_like an__law_like : Option Addr} {sl__law_like : Array (Option Value)} {oc__law_like kV__law_like dc__law_like pm__law_like cd__law_like ct__law_like : Value}
    {f_is_field : Addr} {od_is_field an_is_field : Option Addr} {sl_is_field : Array (Option Value)} {oc_is_field kV_is_field dc_is_field pm_is_field cd_is_field ct_is_field : Value}
    {f_check_field : Addr} {od_check_field an_check_field : Option Addr} {sl_check_field : Array (Option Value)} {oc_check_field kV_check_field dc_check_field pm_check_field cd_check_field ct_check_field : Value}
    {f_is_room : Addr} {od_is_room an_is_room : Option Addr} {sl_is_room : Array (Option Value)} {oc_is_room kV_is_room dc_is_room pm_is_room cd_is_room ct_is_room : Value}
    {f_fits : Addr} {od_fits an_fits : Option Addr} {sl_fits : Array (Option Value)} {oc_fits kV_fits dc_fits pm_fits cd_fits ct_fits : Value}
    {f_is_short : Addr} {od_is_short an_is_short : Option Addr} {sl_is_short : Array (Option Value)} {oc_is_short kV_is_short dc_is_short pm_is_short cd_is_short ct_is_short : Value}
    {f_is_table : Addr} {od_is_table an_is_table : Option Addr} {sl_is_table : Array (Option Value)} {oc_is_table kV_is_table dc_is_table pm_is_table cd_is_table ct_is_table : Value}
    {f_is_place : Addr} {od_is_place an_is_place : Option Addr} {sl_is_place : Array (Option Value)} {oc_is_place kV_is_place dc_is_place pm_is_place cd_is_place ct_is_place : Value}
    {f_is_tie : Addr} {od_is_tie an_is_tie : Option Addr} {sl_is_tie : Array (Option Value)} {oc_is_tie kV_is_tie dc_is_tie pm_is_tie cd_is_tie ct_is_tie : Value}
    {f_is_web : Addr} {od_is_web an_is_web : Option Addr} {sl_is_web : Array (Option Value)} {oc_is_web kV_is_web dc_is_web pm_is_web cd_is_web ct_is_web : Value}
    {f_check_web : Addr} {od_check_web an_check_web : Option Addr} {sl_check_web : Array (Option Value)} {oc_check_web kV_check_web dc_check_web pm_check_web cd_check_web ct_check_web : Value}
    {f_check_view : Addr} {od_check_view an_check_view : Option Addr} {sl_check_view : Array (Option Value)} {oc_check_view kV_check_view dc_check_view pm_check_view cd_check_view ct_check_view : Value}
    {f_is_column : Addr} {od_is_column an_is_column : Option Addr} {sl_is_column : Array (Option Value)} {oc_is_column kV_is_column dc_is_column pm_is_column cd_is_column ct_is_column : Value}
    {f_are_columns : Addr} {od_are_columns an_are_columns : Option Addr} {sl_are_columns : Array (Option Value)} {oc_are_columns kV_are_columns dc_are_columns pm_are_columns cd_are_columns ct_are_columns : Value}
    {f_check_whole : Addr} {od_check_whole an_check_whole : Option Addr} {sl_check_whole : Array (Option Value)} {oc_check_whole kV_check_whole dc_check_whole pm_check_whole cd_check_whole ct_check_whole : Value}
    {f_seen : Addr} {od_seen an_seen : Option Addr} {sl_seen : Array (Option Value)} {oc_seen kV_seen dc_seen pm_seen cd_seen ct_seen : Value}
    {f__law_seen_so : Addr} {od__law_seen_so an__law_seen_so : Option Addr} {sl__law_seen_so : Array (Option Value)} {oc__law_seen_so kV__law_seen_so dc__law_seen_so pm__law_seen_so ct__law_seen_so : Value}
    {f__law_view : Addr} {od__law_view an__law_view : Option Addr} {sl__law_view : Array (Option Value)} {oc__law_view kV__law_view dc__law_view pm__law_view cd__law_view ct__law_view : Value}
    {f_covered : Addr} {od_covered an_covered : Option Addr} {sl_covered : Array (Option Value)} {oc_covered kV_covered dc_covered pm_covered cd_covered ct_covered : Value}
    {f_covers : Addr} {od_covers an_covers : Option Addr} {sl_covers : Array (Option Value)} {oc_covers kV_covers dc_covers pm_covers cd_covers ct_covers : Value}
    {f_view_at : Addr} {od_view_at an_view_at : Option Addr} {sl_view_at : Array (Option Value)} {oc_view_at kV_view_at dc_view_at pm_view_at cd_view_at ct_view_at : Value}
    {f_view : Addr} {od_view an_view : Option Addr} {sl_view : Array (Option Value)} {oc_view kV_view dc_view pm_view cd_view ct_view : Value}
    {f_law : Addr} {od_law an_law : Option Addr} {sl_law : Array (Option Value)} {oc_law kV_law dc_law pm_law ct_law : Value}
    {aFIELDS : Addr} {odFIELDS : Option Addr} {itsFIELDS : Array Value} {nFIELDS : Nat} {slFIELDS : Array (Option Value)}
    {tMOST_PLACES : Tok}
    {tMOST_TIES : Tok}
    {tMOST_ROOM : Tok}
    {tMOST_FIGURE : Tok}
    {cL PT : Addr} {ddL : Option Addr} {vsL : Array Value} {slL : Array (Option Value)} {fileL : Str} {tfL tgL ttL : Tok} {flagsL textL : Int} {inFL : Bool}
    {cL__law_seen_so PT__law_seen_so : Addr} {ddL__law_seen_so : Option Addr} {vsL__law_seen_so : Array Value} {slL__law_seen_so : Array (Option Value)} {fileL__law_seen_so : Str} {tfL__law_seen_so tgL__law_seen_so ttL__law_seen_so : Tok} {flagsL__law_seen_so textL__law_seen_so : Int} {inFL__law_seen_so : Bool}
    {fI : Addr} {ocI dVI kVI dcI pmI cdI ctI : Value} {odI anI : Option Addr} {slI : Array (Option Value)}
    {C_BadView N_BadView : Addr} {nm_BadView q_BadView n2_BadView : Str} {tk_BadView : Tok} {bs_BadView bm_BadView sub_BadView : List Value} {sn_BadView : List Str} {ab_BadView : Bool} {col_BadView : Option Bool} {dd_BadView : Option Addr} {k0_BadView k1_BadView k3_BadView k5_BadView : Option Value}
    {C_BadWhole N_BadWhole : Addr} {nm_BadWhole q_BadWhole n2_BadWhole : Str} {tk_BadWhole : Tok} {bs_BadWhole bm_BadWhole sub_BadWhole : List Value} {sn_BadWhole : List Str} {ab_BadWhole : Bool} {col_BadWhole : Option Bool} {dd_BadWhole : Option Addr} {k0_BadWhole k1_BadWhole k3_BadWhole k5_BadWhole : Option Value}
    (a_WebError : PySem.W.nsIn K mainGlobals "WebError" = some (some (.ref CW))) (a_Missing : PySem.W.nsIn K mainGlobals "Missing" = some (some (.ref CM))) (s_W : PySem.W.subIn K (.ref CW) (.type "BaseException") = some true) (i_W : PySem.W.isClsIn K CW = true) (y_W : PySem.W.typeIn K (.ref CW) = some (.type "type")) (s_M : PySem.W.subIn K (.ref CM) (.type "BaseException") = some true) (i_M : PySem.W.isClsIn K CM = true) (y_M : PySem.W.typeIn K (.ref CM) = some (.type "type"))
    (a__law_open : PySem.W.nsIn K mainGlobals "_law_open" = some (some (.ref f__law_open))) (l__law_open : K.lookup f__law_open = some ⟨oc__law_open, od__law_open, .func (PySem.W.fnOf "_law_open" "_law_open" (defArgs s__law_open) (defBody s__law_open) (defScope s__law_open) .none kV__law_open dc__law_open pm__law_open an__law_open cd__law_open ct__law_open), sl__law_open⟩) (c__law_open : PySem.W.codeIn K cd__law_open "_law_open" = true) (k__law_open : PySem.W.keepIn K (.ref f__law_open) = true)
    (a__law_draw : PySem.W.nsIn K mainGlobals "_law_draw" = some (some (.ref f__law_draw))) (l__law_draw : K.lookup f__law_draw = some ⟨oc__law_draw, od__law_draw, .func (PySem.W.fnOf "_law_draw" "_law_draw" (defArgs s__law_draw) (defBody s__law_draw) (defScope s__law_draw) .none kV__law_draw dc__law_draw pm__law_draw an__law_draw cd__law_draw ct__law_draw), sl__law_draw⟩) (c__law_draw : PySem.W.codeIn K cd__law_draw "_law_draw" = true) (k__law_draw : PySem.W.keepIn K (.ref f__law_draw) = true)
    (a__law_any : PySem.W.nsIn K mainGlobals "_law_any" = some (some (.ref f__law_any))) (l__law_any : K.lookup f__law_any = some ⟨oc__law_any, od__law_any, .func (PySem.W.fnOf "_law_any" "_law_any" (defArgs s__law_any) (defBody s__law_any) (defScope s__law_any) .none kV__law_any dc__law_any pm__law_any an__law_any cd__law_any ct__law_any), sl__law_any⟩) (c__law_any : PySem.W.codeIn K cd__law_any "_law_any" = true) (k__law_any : PySem.W.keepIn K (.ref f__law_any) = true)
    (a__law_primes : PySem.W.nsIn K mainGlobals "_law_primes" = some (some (.ref f__law_primes))) (l__law_primes : K.lookup f__law_primes = some ⟨oc__law_primes, od__law_primes, .func (PySem.W.fnOf "_law_primes" "_law_primes" (defArgs s__law_primes) (defBody s__law_primes) (defScope s__law_primes) .none kV__law_primes dc__law_primes pm__law_primes an__law_primes cd__law_primes ct__law_primes), sl__law_primes⟩) (c__law_primes : PySem.W.codeIn K cd__law_primes "_law_primes" = true) (k__law_primes : PySem.W.keepIn K (.ref f__law_primes) = true)
    (a__law_field : PySem.W.nsIn K mainGlobals "_law_field" = some (some (.ref f__law_field))) (l__law_field : K.lookup f__law_field = some ⟨oc__law_field, od__law_field, .func (PySem.W.fnOf "_law_field" "_law_field" (defArgs s__law_field) (defBody s__law_field) (defScope s__law_field) .none kV__law_field dc__law_field pm__law_field an__law_field cd__law_field ct__law_field), sl__law_field⟩) (c__law_field : PySem.W.codeIn K cd__law_field "_law_field" = true) (k__law_field : PySem.W.keepIn K (.ref f__law_field) = true)
    (a__law_gcd : PySem.W.nsIn K mainGlobals "_law_gcd" = some (some (.ref f__law_gcd))) (l__law_gcd : K.lookup f__law_gcd = some ⟨oc__law_gcd, od__law_gcd, .func (PySem.W.fnOf "_law_gcd" "_law_gcd" (defArgs s__law_gcd) (defBody s__law_gcd) (defScope s__law_gcd) .none kV__law_gcd dc__law_gcd pm__law_gcd an__law_gcd cd__law_gcd ct__law_gcd), sl__law_gcd⟩) (c__law_gcd : PySem.W.codeIn K cd__law_gcd "_law_gcd" = true) (k__law_gcd : PySem.W.keepIn K (.ref f__law_gcd) = true)
    (a__law_num : PySem.W.nsIn K mainGlobals "_law_num" = some (some (.ref f__law_num))) (l__law_num : K.lookup f__law_num = some ⟨oc__law_num, od__law_num, .func (PySem.W.fnOf "_law_num" "_law_num" (defArgs s__law_num) (defBody s__law_num) (defScope s__law_num) .none kV__law_num dc__law_num pm__law_num an__law_num cd__law_num ct__law_num), sl__law_num⟩) (c__law_num : PySem.W.codeIn K cd__law_num "_law_num" = true) (k__law_num : PySem.W.keepIn K (.ref f__law_num) = true)
    (a__law_number : PySem.W.nsIn K mainGlobals "_law_number" = some (some (.ref f__law_number))) (l__law_number : K.lookup f__law_number = some ⟨oc__law_number, od__law_number, .func (PySem.W.fnOf "_law_number" "_law_number" (defArgs s__law_number) (defBody s__law_number) (defScope s__law_number) .none kV__law_number dc__law_number pm__law_number an__law_number cd__law_number ct__law_number), sl__law_number⟩) (c__law_number : PySem.W.codeIn K cd__law_number "_law_number" = true) (k__law_number : PySem.W.keepIn K (.ref f__law_number) = true)
    (a__law_row : PySem.W.nsIn K mainGlobals "_law_row" = some (some (.ref f__law_row))) (l__law_row : K.lookup f__law_row = some ⟨oc__law_row, od__law_row, .func (PySem.W.fnOf "_law_row" "_law_row" (defArgs s__law_row) (defBody s__law_row) (defScope s__law_row) .none kV__law_row dc__law_row pm__law_row an__law_row cd__law_row ct__law_row), sl__law_row⟩) (c__law_row : PySem.W.codeIn K cd__law_row "_law_row" = true) (k__law_row : PySem.W.keepIn K (.ref f__law_row) = true)
    (a__law_nothing : PySem.W.nsIn K mainGlobals "_law_nothing" = some (some (.ref f__law_nothing))) (l__law_nothing : K.lookup f__law_nothing = some ⟨oc__law_nothing, od__law_nothing, .func (PySem.W.fnOf "_law_nothing" "_law_nothing" (defArgs s__law_nothing) (defBody s__law_nothing) (defScope s__law_nothing) .none kV__law_nothing dc__law_nothing pm__law_nothing an__law_nothing cd__law_nothing ct__law_nothing), sl__law_nothing⟩) (c__law_nothing : PySem.W.codeIn K cd__law_nothing "_law_nothing" = true) (k__law_nothing : PySem.W.keepIn K (.ref f__law_nothing) = true)
    (a__law_end_table : PySem.W.nsIn K mainGlobals "_law_end_table" = some (some (.ref f__law_end_table))) (l__law_end_table : K.lookup f__law_end_table = some ⟨oc__law_end_table, od__law_end_table, .func (PySem.W.fnOf "_law_end_table" "_law_end_table" (defArgs s__law_end_table) (defBody s__law_end_table) (defScope s__law_end_table) .none kV__law_end_table dc__law_end_table pm__law_end_table an__law_end_table cd__law_end_table ct__law_end_table), sl__law_end_table⟩) (c__law_end_table : PySem.W.codeIn K cd__law_end_table "_law_end_table" = true) (k__law_end_table : PySem.W.keepIn K (.ref f__law_end_table) = true)
    (a__law_web : PySem.W.nsIn K mainGlobals "_law_web" = some (some (.ref f__law_web))) (l__law_web : K.lookup f__law_web = some ⟨oc__law_web, od__law_web, .func (PySem.W.fnOf "_law_web" "_law_web" (defArgs s__law_web) (defBody s__law_web) (defScope s__law_web) .none kV__law_web dc__law_web pm__law_web an__law_web cd__law_web ct__law_web), sl__law_web⟩) (c__law_web : PySem.W.codeIn K cd__law_web "_law_web" = true) (k__law_web : PySem.W.keepIn K (.ref f__law_web) = true)
    (a__law_plus : PySem.W.nsIn K mainGlobals "_law_plus" = some (some (.ref f__law_plus))) (l__law_plus : K.lookup f__law_plus = some ⟨oc__law_plus, od__law_plus, .func (PySem.W.fnOf "_law_plus" "_law_plus" (defArgs s__law_plus) (defBody s__law_plus) (defScope s__law_plus) .none kV__law_plus dc__law_plus pm__law_plus an__law_plus cd__law_plus ct__law_plus), sl__law_plus⟩) (c__law_plus : PySem.W.codeIn K cd__law_plus "_law_plus" = true) (k__law_plus : PySem.W.keepIn K (.ref f__law_plus) = true)
    (a__law_added : PySem.W.nsIn K mainGlobals "_law_added" = some (some (.ref f__law_added))) (l__law_added : K.lookup f__law_added = some ⟨oc__law_added, od__law_added, .func (PySem.W.fnOf "_law_added" "_law_added" (defArgs s__law_added) (defBody s__law_added) (defScope s__law_added) .none kV__law_added dc__law_added pm__law_added an__law_added cd__law_added ct__law_added), sl__law_added⟩) (c__law_added : PySem.W.codeIn K cd__law_added "_law_added" = true) (k__law_added : PySem.W.keepIn K (.ref f__law_added) = true)
    (a__law_times : PySem.W.nsIn K mainGlobals "_law_times" = some (some (.ref f__law_times))) (l__law_times : K.lookup f__law_times = some ⟨oc__law_times, od__law_times, .func (PySem.W.fnOf "_law_times" "_law_times" (defArgs s__law_times) (defBody s__law_times) (defScope s__law_times) .none kV__law_times dc__law_times pm__law_times an__law_times cd__law_times ct__law_times), sl__law_times⟩) (c__law_times : PySem.W.codeIn K cd__law_times "_law_times" = true) (k__law_times : PySem.W.keepIn K (.ref f__law_times) = true)
    (a__law_scaled : PySem.W.nsIn K mainGlobals "_law_scaled" = some (some (.ref f__law_scaled))) (l__law_scaled : K.lookup f__law_scaled = some ⟨oc__law_scaled, od__law_scaled, .func (PySem.W.fnOf "_law_scaled" "_law_scaled" (defArgs s__law_scaled) (defBody s__law_scaled) (defScope s__law_scaled) .none kV__law_scaled dc__law_scaled pm__law_scaled an__law_scaled cd__law_scaled ct__law_scaled), sl__law_scaled⟩) (c__law_scaled : PySem.W.codeIn K cd__law_scaled "_law_scaled" = true) (k__law_scaled : PySem.W.keepIn K (.ref f__law_scaled) = true)
    (a__law_less : PySem.W.nsIn K mainGlobals "_law_less" = some (some (.ref f__law_less))) (l__law_less : K.lookup f__law_less = some ⟨oc__law_less, od__law_less, .func (PySem.W.fnOf "_law_less" "_law_less" (defArgs s__law_less) (defBody s__law_less) (defScope s__law_less) .none kV__law_less dc__law_less pm__law_less an__law_less cd__law_less ct__law_less), sl__law_less⟩) (c__law_less : PySem.W.codeIn K cd__law_less "_law_less" = true) (k__law_less : PySem.W.keepIn K (.ref f__law_less) = true)
    (a__law_turning_table : PySem.W.nsIn K mainGlobals "_law_turning_table" = some (some (.ref f__law_turning_table))) (l__law_turning_table : K.lookup f__law_turning_table = some ⟨oc__law_turning_table, od__law_turning_table, .func (PySem.W.fnOf "_law_turning_table" "_law_turning_table" (defArgs s__law_turning_table) (defBody s__law_turning_table) (defScope s__law_turning_table) .none kV__law_turning_table dc__law_turning_table pm__law_turning_table an__law_turning_table cd__law_turning_table ct__law_turning_table), sl__law_turning_table⟩) (c__law_turning_table : PySem.W.codeIn K cd__law_turning_table "_law_turning_table" = true) (k__law_turning_table : PySem.W.keepIn K (.ref f__law_turning_table) = true)
    (a__law_stiff_web : PySem.W.nsIn K mainGlobals "_law_stiff_web" = some (some (.ref f__law_stiff_web))) (l__law_stiff_web : K.lookup f__law_stiff_web = some ⟨oc__law_stiff_web, od__law_stiff_web, .func (PySem.W.fnOf "_law_stiff_web" "_law_stiff_web" (defArgs s__law_stiff_web) (defBody s__law_stiff_web) (defScope s__law_stiff_web) .none kV__law_stiff_web dc__law_stiff_web pm__law_stiff_web an__law_stiff_web cd__law_stiff_web ct__law_stiff_web), sl__law_stiff_web⟩) (c__law_stiff_web : PySem.W.codeIn K cd__law_stiff_web "_law_stiff_web" = true) (k__law_stiff_web : PySem.W.keepIn K (.ref f__law_stiff_web) = true)
    (a__law_some_web : PySem.W.nsIn K mainGlobals "_law_some_web" = some (some (.ref f__law_some_web))) (l__law_some_web : K.lookup f__law_some_web = some ⟨oc__law_some_web, od__law_some_web, .func (PySem.W.fnOf "_law_some_web" "_law_some_web" (defArgs s__law_some_web) (defBody s__law_some_web) (defScope s__law_some_web) .none kV__law_some_web dc__law_some_web pm__law_some_web an__law_some_web cd__law_some_web ct__law_some_web), sl__law_some_web⟩) (c__law_some_web : PySem.W.codeIn K cd__law_some_web "_law_some_web" = true) (k__law_some_web : PySem.W.keepIn K (.ref f__law_some_web) = true)
    (a__law_bent_places : PySem.W.nsIn K mainGlobals "_law_bent_places" = some (some (.ref f__law_bent_places))) (l__law_bent_places : K.lookup f__law_bent_places = some ⟨oc__law_bent_places, od__law_bent_places, .func (PySem.W.fnOf "_law_bent_places" "_law_bent_places" (defArgs s__law_bent_places) (defBody s__law_bent_places) (defScope s__law_bent_places) .none kV__law_bent_places dc__law_bent_places pm__law_bent_places an__law_bent_places cd__law_bent_places ct__law_bent_places), sl__law_bent_places⟩) (c__law_bent_places : PySem.W.codeIn K cd__law_bent_places "_law_bent_places" = true) (k__law_bent_places : PySem.W.keepIn K (.ref f__law_bent_places) = true)
    (a__law_good_view : PySem.W.nsIn K mainGlobals "_law_good_view" = some (some (.ref f__law_good_view))) (l__law_good_view : K.lookup f__law_good_view = some ⟨oc__law_good_view, od__law_good_view, .func (PySem.W.fnOf "_law_good_view" "_law_good_view" (defArgs s__law_good_view) (defBody s__law_good_view) (defScope s__law_good_view) .none kV__law_good_view dc__law_good_view pm__law_good_view an__law_good_view cd__law_good_view ct__law_good_view), sl__law_good_view⟩) (c__law_good_view : PySem.W.codeIn K cd__law_good_view "_law_good_view" = true) (k__law_good_view : PySem.W.keepIn K (.ref f__law_good_view) = true)
    (a__law_whole : PySem.W.nsIn K mainGlobals "_law_whole" = some (some (.ref f__law_whole))) (l__law_whole : K.lookup f__law_whole = some ⟨oc__law_whole, od__law_whole, .func (PySem.W.fnOf "_law_whole" "_law_whole" (defArgs s__law_whole) (defBody s__law_whole) (defScope s__law_whole) .none kV__law_whole dc__law_whole pm__law_whole an__law_whole cd__law_whole ct__law_whole), sl__law_whole⟩) (c__law_whole : PySem.W.codeIn K cd__law_whole "_law_whole" = true) (k__law_whole : PySem.W.keepIn K (.ref f__law_whole) = true)
    (a__law_places : PySem.W.nsIn K mainGlobals "_law_places" = some (some (.ref f__law_places))) (l__law_places : K.lookup f__law_places = some ⟨oc__law_places, od__law_places, .func (PySem.W.fnOf "_law_places" "_law_places" (defArgs s__law_places) (defBody s__law_places) (defScope s__law_places) .none kV__law_places dc__law_places pm__law_places an__law_places cd__law_places ct__law_places), sl__law_places⟩) (c__law_places : PySem.W.codeIn K cd__law_places "_law_places" = true) (k__law_places : PySem.W.keepIn K (.ref f__law_places) = true)
    (a__law_cover : PySem.W.nsIn K mainGlobals "_law_cover" = some (some (.ref f__law_cover))) (l__law_cover : K.lookup f__law_cover = some ⟨oc__law_cover, od__law_cover, .func (PySem.W.fnOf "_law_cover" "_law_cover" (defArgs s__law_cover) (defBody s__law_cover) (defScope s__law_cover) .none kV__law_cover dc__law_cover pm__law_cover an__law_cover cd__law_cover ct__law_cover), sl__law_cover⟩) (c__law_cover : PySem.W.codeIn K cd__law_cover "_law_cover" = true) (k__law_cover : PySem.W.keepIn K (.ref f__law_cover) = true)
    (a__law_covers : PySem.W.nsIn K mainGlobals "_law_covers" = some (some (.ref f__law_covers))) (l__law_covers : K.lookup f__law_covers = some ⟨oc__law_covers, od__law_covers, .func (PySem.W.fnOf "_law_covers" "_law_covers" (defArgs s__law_covers) (defBody s__law_covers) (defScope s__law_covers) .none kV__law_covers dc__law_covers pm__law_covers an__law_covers cd__law_covers ct__law_covers), sl__law_covers⟩) (c__law_covers : PySem.W.codeIn K cd__law_covers "_law_covers" = true) (k__law_covers : PySem.W.keepIn K (.ref f__law_covers) = true)
    (a__law_bent_columns : PySem.W.nsIn K mainGlobals "_law_bent_columns" = some (some (.ref f__law_bent_columns))) (l__law_bent_columns : K.lookup f__law_bent_columns = some ⟨oc__law_bent_columns, od__law_bent_columns, .func (PySem.W.fnOf "_law_bent_columns" "_law_bent_columns" (defArgs s__law_bent_columns) (defBody s__law_bent_columns) (defScope s__law_bent_columns) .none kV__law_bent_columns dc__law_bent_columns pm__law_bent_columns an__law_bent_columns cd__law_bent_columns ct__law_bent_columns), sl__law_bent_columns⟩) (c__law_bent_columns : PySem.W.codeIn K cd__law_bent_columns "_law_bent_columns" = true) (k__law_bent_columns : PySem.W.keepIn K (.ref f__law_bent_columns) = true)
    (a__law_is_number : PySem.W.nsIn K mainGlobals "_law_is_number" = some (some (.ref f__law_is_number))) (l__law_is_number : K.lookup f__law_is_number = some ⟨oc__law_is_number, od__law_is_number, .func (PySem.W.fnOf "_law_is_number" "_law_is_number" (defArgs s__law_is_number) (defBody s__law_is_number) (defScope s__law_is_number) .none kV__law_is_number dc__law_is_number pm__law_is_number an__law_is_number cd__law_is_number ct__law_is_number), sl__law_is_number⟩) (c__law_is_number : PySem.W.codeIn K cd__law_is_number "_law_is_number" = true) (k__law_is_number : PySem.W.keepIn K (.ref f__law_is_number) = true)
    (a__law_numbers_good : PySem.W.nsIn K mainGlobals "_law_numbers_good" = some (some (.ref f__law_numbers_good))) (l__law_numbers_good : K.lookup f__law_numbers_good = some ⟨oc__law_numbers_good, od__law_numbers_good, .func (PySem.W.fnOf "_law_numbers_good" "_law_numbers_good" (defArgs s__law_numbers_good) (defBody s__law_numbers_good) (defScope s__law_numbers_good) .none kV__law_numbers_good dc__law_numbers_good pm__law_numbers_good an__law_numbers_good cd__law_numbers_good ct__law_numbers_good), sl__law_numbers_good⟩) (c__law_numbers_good : PySem.W.codeIn K cd__law_numbers_good "_law_numbers_good" = true) (k__law_numbers_good : PySem.W.keepIn K (.ref f__law_numbers_good) = true)
    (a__law_are_columns : PySem.W.nsIn K mainGlobals "_law_are_columns" = some (some (.ref f__law_are_columns))) (l__law_are_columns : K.lookup f__law_are_columns = some ⟨oc__law_are_columns, od__law_are_columns, .func (PySem.W.fnOf "_law_are_columns" "_law_are_columns" (defArgs s__law_are_columns) (defBody s__law_are_columns) (defScope s__law_are_columns) .none kV__law_are_columns dc__law_are_columns pm__law_are_columns an__law_are_columns cd__law_are_columns ct__law_are_columns), sl__law_are_columns⟩) (c__law_are_columns : PySem.W.codeIn K cd__law_are_columns "_law_are_columns" = true) (k__law_are_columns : PySem.W.keepIn K (.ref f__law_are_columns) = true)
    (a__law_why : PySem.W.nsIn K mainGlobals "_law_why" = some (some (.ref f__law_why))) (l__law_why : K.lookup f__law_why = some ⟨oc__law_why, od__law_why, .func (PySem.W.fnOf "_law_why" "_law_why" (defArgs s__law_why) (defBody s__law_why) (defScope s__law_why) .none kV__law_why dc__law_why pm__law_why an__law_why cd__law_why ct__law_why), sl__law_why⟩) (c__law_why : PySem.W.codeIn K cd__law_why "_law_why" = true) (k__law_why : PySem.W.keepIn K (.ref f__law_why) = true)
    (a__law_int : PySem.W.nsIn K mainGlobals "_law_int" = some (some (.ref f__law_int))) (l__law_int : K.lookup f__law_int = some ⟨oc__law_int, od__law_int, .func (PySem.W.fnOf "_law_int" "_law_int" (defArgs s__law_int) (defBody s__law_int) (defScope s__law_int) .none kV__law_int dc__law_int pm__law_int an__law_int cd__law_int ct__law_int), sl__law_int⟩) (c__law_int : PySem.W.codeIn K cd__law_int "_law_int" = true) (k__law_int : PySem.W.keepIn K (.ref f__law_int) = true)
    (a__law_like : PySem.W.nsIn K mainGlobals "_law_like" = some (some (.ref f__law_like))) (l__law_like : K.lookup f__law_like = some ⟨oc__law_like, od__law_like, .func (PySem.W.fnOf "_law_like" "_law_like" (defArgs s__law_like) (defBody s__law_like) (defScope s__law_like) .none kV__law_like dc__law_like pm__law_like an__law_like cd__law_like ct__law_like), sl__law_like⟩) (c__law_like : PySem.W.codeIn K cd__law_like "_law_like" = true) (k__law_like : PySem.W.keepIn K (.ref f__law_like) = true)
    (a_is_field : PySem.W.nsIn K mainGlobals "is_field" = some (some (.ref f_is_field))) (l_is_field : K.lookup f_is_field = some ⟨oc_is_field, od_is_field, .func (PySem.W.fnOf "is_field" "is_field" (defArgs s_is_field) (defBody s_is_field) (defScope s_is_field) .none kV_is_field dc_is_field pm_is_field an_is_field cd_is_field ct_is_field), sl_is_field⟩) (c_is_field : PySem.W.codeIn K cd_is_field "is_field" = true) (k_is_field : PySem.W.keepIn K (.ref f_is_field) = true)
    (a_check_field : PySem.W.nsIn K mainGlobals "check_field" = some (some (.ref f_check_field))) (l_check_field : K.lookup f_check_field = some ⟨oc_check_field, od_check_field, .func (PySem.W.fnOf "check_field" "check_field" (defArgs s_check_field) (defBody s_check_field) (defScope s_check_field) .none kV_check_field dc_check_field pm_check_field an_check_field cd_check_field ct_check_field), sl_check_field⟩) (c_check_field : PySem.W.codeIn K cd_check_field "check_field" = true) (k_check_field : PySem.W.keepIn K (.ref f_check_field) = true)
    (a_is_room : PySem.W.nsIn K mainGlobals "is_room" = some (some (.ref f_is_room))) (l_is_room : K.lookup f_is_room = some ⟨oc_is_room, od_is_room, .func (PySem.W.fnOf "is_room" "is_room" (defArgs s_is_room) (defBody s_is_room) (defScope s_is_room) .none kV_is_room dc_is_room pm_is_room an_is_room cd_is_room ct_is_room), sl_is_room⟩) (c_is_room : PySem.W.codeIn K cd_is_room "is_room" = true) (k_is_room : PySem.W.keepIn K (.ref f_is_room) = true)
    (a_fits : PySem.W.nsIn K mainGlobals "fits" = some (some (.ref f_fits))) (l_fits : K.lookup f_fits = some ⟨oc_fits, od_fits, .func (PySem.W.fnOf "fits" "fits" (defArgs s_fits) (defBody s_fits) (defScope s_fits) .none kV_fits dc_fits pm_fits an_fits cd_fits ct_fits), sl_fits⟩) (c_fits : PySem.W.codeIn K cd_fits "fits" = true) (k_fits : PySem.W.keepIn K (.ref f_fits) = true)
    (a_is_short : PySem.W.nsIn K mainGlobals "is_short" = some (some (.ref f_is_short))) (l_is_short : K.lookup f_is_short = some ⟨oc_is_short, od_is_short, .func (PySem.W.fnOf "is_short" "is_short" (defArgs s_is_short) (defBody s_is_short) (defScope s_is_short) .none kV_is_short dc_is_short pm_is_short an_is_short cd_is_short ct_is_short), sl_is_short⟩) (c_is_short : PySem.W.codeIn K cd_is_short "is_short" = true) (k_is_short : PySem.W.keepIn K (.ref f_is_short) = true)
    (a_is_table : PySem.W.nsIn K mainGlobals "is_table" = some (some (.ref f_is_table))) (l_is_table : K.lookup f_is_table = some ⟨oc_is_table, od_is_table, .func (PySem.W.fnOf "is_table" "is_table" (defArgs s_is_table) (defBody s_is_table) (defScope s_is_table) .none kV_is_table dc_is_table pm_is_table an_is_table cd_is_table ct_is_table), sl_is_table⟩) (c_is_table : PySem.W.codeIn K cd_is_table "is_table" = true) (k_is_table : PySem.W.keepIn K (.ref f_is_table) = true)
    (a_is_place : PySem.W.nsIn K mainGlobals "is_place" = some (some (.ref f_is_place))) (l_is_place : K.lookup f_is_place = some ⟨oc_is_place, od_is_place, .func (PySem.W.fnOf "is_place" "is_place" (defArgs s_is_place) (defBody s_is_place) (defScope s_is_place) .none kV_is_place dc_is_place pm_is_place an_is_place cd_is_place ct_is_place), sl_is_place⟩) (c_is_place : PySem.W.codeIn K cd_is_place "is_place" = true) (k_is_place : PySem.W.keepIn K (.ref f_is_place) = true)
    (a_is_tie : PySem.W.nsIn K mainGlobals "is_tie" = some (some (.ref f_is_tie))) (l_is_tie : K.lookup f_is_tie = some ⟨oc_is_tie, od_is_tie, .func (PySem.W.fnOf "is_tie" "is_tie" (defArgs s_is_tie) (defBody s_is_tie) (defScope s_is_tie) .none kV_is_tie dc_is_tie pm_is_tie an_is_tie cd_is_tie ct_is_tie), sl_is_tie⟩) (c_is_tie : PySem.W.codeIn K cd_is_tie "is_tie" = true) (k_is_tie : PySem.W.keepIn K (.ref f_is_tie) = true)
    (a_is_web : PySem.W.nsIn K mainGlobals "is_web" = some (some (.ref f_is_web))) (l_is_web : K.lookup f_is_web = some ⟨oc_is_web, od_is_web, .func (PySem.W.fnOf "is_web" "is_web" (defArgs s_is_web) (defBody s_is_web) (defScope s_is_web) .none kV_is_web dc_is_web pm_is_web an_is_web cd_is_web ct_is_web), sl_is_web⟩) (c_is_web : PySem.W.codeIn K cd_is_web "is_web" = true) (k_is_web : PySem.W.keepIn K (.ref f_is_web) = true)
    (a_check_web : PySem.W.nsIn K mainGlobals "check_web" = some (some (.ref f_check_web))) (l_check_web : K.lookup f_check_web = some ⟨oc_check_web, od_check_web, .func (PySem.W.fnOf "check_web" "check_web" (defArgs s_check_web) (defBody s_check_web) (defScope s_check_web) .none kV_check_web dc_check_web pm_check_web an_check_web cd_check_web ct_check_web), sl_check_web⟩) (c_check_web : PySem.W.codeIn K cd_check_web "check_web" = true) (k_check_web : PySem.W.keepIn K (.ref f_check_web) = true)
    (a_check_view : PySem.W.nsIn K mainGlobals "check_view" = some (some (.ref f_check_view))) (l_check_view : K.lookup f_check_view = some ⟨oc_check_view, od_check_view, .func (PySem.W.fnOf "check_view" "check_view" (defArgs s_check_view) (defBody s_check_view) (defScope s_check_view) .none kV_check_view dc_check_view pm_check_view an_check_view cd_check_view ct_check_view), sl_check_view⟩) (c_check_view : PySem.W.codeIn K cd_check_view "check_view" = true) (k_check_view : PySem.W.keepIn K (.ref f_check_view) = true)
    (a_is_column : PySem.W.nsIn K mainGlobals "is_column" = some (some (.ref f_is_column))) (l_is_column : K.lookup f_is_column = some ⟨oc_is_column, od_is_column, .func (PySem.W.fnOf "is_column" "is_column" (defArgs s_is_column) (defBody s_is_column) (defScope s_is_column) .none kV_is_column dc_is_column pm_is_column an_is_column cd_is_column ct_is_column), sl_is_column⟩) (c_is_column : PySem.W.codeIn K cd_is_column "is_column" = true) (k_is_column : PySem.W.keepIn K (.ref f_is_column) = true)
    (a_are_columns : PySem.W.nsIn K mainGlobals "are_columns" = some (some (.ref f_are_columns))) (l_are_columns : K.lookup f_are_columns = some ⟨oc_are_columns, od_are_columns, .func (PySem.W.fnOf "are_columns" "are_columns" (defArgs s_are_columns) (defBody s_are_columns) (defScope s_are_columns) .none kV_are_columns dc_are_columns pm_are_columns an_are_columns cd_are_columns ct_are_columns), sl_are_columns⟩) (c_are_columns : PySem.W.codeIn K cd_are_columns "are_columns" = true) (k_are_columns : PySem.W.keepIn K (.ref f_are_columns) = true)
    (a_check_whole : PySem.W.nsIn K mainGlobals "check_whole" = some (some (.ref f_check_whole))) (l_check_whole : K.lookup f_check_whole = some ⟨oc_check_whole, od_check_whole, .func (PySem.W.fnOf "check_whole" "check_whole" (defArgs s_check_whole) (defBody s_check_whole) (defScope s_check_whole) .none kV_check_whole dc_check_whole pm_check_whole an_check_whole cd_check_whole ct_check_whole), sl_check_whole⟩) (c_check_whole : PySem.W.codeIn K cd_check_whole "check_whole" = true) (k_check_whole : PySem.W.keepIn K (.ref f_check_whole) = true)
    (a_seen : PySem.W.nsIn K mainGlobals "seen" = some (some (.ref f_seen))) (l_seen : K.lookup f_seen = some ⟨oc_seen, od_seen, .func (PySem.W.fnOf "seen" "seen" (defArgs s_seen) (defBody s_seen) (defScope s_seen) .none kV_seen dc_seen pm_seen an_seen cd_seen ct_seen), sl_seen⟩) (c_seen : PySem.W.codeIn K cd_seen "seen" = true) (k_seen : PySem.W.keepIn K (.ref f_seen) = true)
    (a__law_seen_so : PySem.W.nsIn K mainGlobals "_law_seen_so" = some (some (.ref f__law_seen_so))) (l__law_seen_so : K.lookup f__law_seen_so = some ⟨oc__law_seen_so, od__law_seen_so, .func (PySem.W.fnOf "_law_seen_so" "_law_seen_so" (defArgs s__law_seen_so) (defBody s__law_seen_so) (defScope s__law_seen_so) .none kV__law_seen_so dc__law_seen_so pm__law_seen_so an__law_seen_so (.ref cL__law_seen_so) ct__law_seen_so), sl__law_seen_so⟩) (c__law_seen_so : PySem.W.codeIn K (.ref cL__law_seen_so) "_law_seen_so" = true) (k__law_seen_so : PySem.W.keepIn K (.ref f__law_seen_so) = true)
    (a__law_view : PySem.W.nsIn K mainGlobals "_law_view" = some (some (.ref f__law_view))) (l__law_view : K.lookup f__law_view = some ⟨oc__law_view, od__law_view, .func (PySem.W.fnOf "_law_view" "_law_view" (defArgs s__law_view) (defBody s__law_view) (defScope s__law_view) .none kV__law_view dc__law_view pm__law_view an__law_view cd__law_view ct__law_view), sl__law_view⟩) (c__law_view : PySem.W.codeIn K cd__law_view "_law_view" = true) (k__law_view : PySem.W.keepIn K (.ref f__law_view) = true)
    (a_covered : PySem.W.nsIn K mainGlobals "covered" = some (some (.ref f_covered))) (l_covered : K.lookup f_covered = some ⟨oc_covered, od_covered, .func (PySem.W.fnOf "covered" "covered" (defArgs s_covered) (defBody s_covered) (defScope s_covered) .none kV_covered dc_covered pm_covered an_covered cd_covered ct_covered), sl_covered⟩) (c_covered : PySem.W.codeIn K cd_covered "covered" = true) (k_covered : PySem.W.keepIn K (.ref f_covered) = true)
    (a_covers : PySem.W.nsIn K mainGlobals "covers" = some (some (.ref f_covers))) (l_covers : K.lookup f_covers = some ⟨oc_covers, od_covers, .func (PySem.W.fnOf "covers" "covers" (defArgs s_covers) (defBody s_covers) (defScope s_covers) .none kV_covers dc_covers pm_covers an_covers cd_covers ct_covers), sl_covers⟩) (c_covers : PySem.W.codeIn K cd_covers "covers" = true) (k_covers : PySem.W.keepIn K (.ref f_covers) = true)
    (a_view_at : PySem.W.nsIn K mainGlobals "view_at" = some (some (.ref f_view_at))) (l_view_at : K.lookup f_view_at = some ⟨oc_view_at, od_view_at, .func (PySem.W.fnOf "view_at" "view_at" (defArgs s_view_at) (defBody s_view_at) (defScope s_view_at) .none kV_view_at dc_view_at pm_view_at an_view_at cd_view_at ct_view_at), sl_view_at⟩) (c_view_at : PySem.W.codeIn K cd_view_at "view_at" = true) (k_view_at : PySem.W.keepIn K (.ref f_view_at) = true)
    (a_view : PySem.W.nsIn K mainGlobals "view" = some (some (.ref f_view))) (l_view : K.lookup f_view = some ⟨oc_view, od_view, .func (PySem.W.fnOf "view" "view" (defArgs s_view) (defBody s_view) (defScope s_view) .none kV_view dc_view pm_view an_view cd_view ct_view), sl_view⟩) (c_view : PySem.W.codeIn K cd_view "view" = true) (k_view : PySem.W.keepIn K (.ref f_view) = true)
    (a_law : PySem.W.nsIn K mainGlobals "law" = some (some (.ref f_law))) (l_law : K.lookup f_law = some ⟨oc_law, od_law, .func (PySem.W.fnOf "law" "law" (defArgs s_law) (defBody s_law) (defScope s_law) .none kV_law dc_law pm_law an_law (.ref cL) ct_law), sl_law⟩) (c_law : PySem.W.codeIn K (.ref cL) "law" = true) (k_law : PySem.W.keepIn K (.ref f_law) = true)
    (z_len : PySem.W.nsIn K mainGlobals "len" = some none)
    (z_range : PySem.W.nsIn K mainGlobals "range" = some none)
    (z_all : PySem.W.nsIn K mainGlobals "all" = some none)
    (z_abs : PySem.W.nsIn K mainGlobals "abs" = some none)
    (z_list : PySem.W.nsIn K mainGlobals "list" = some none)
    (z_isinstance : PySem.W.nsIn K mainGlobals "isinstance" = some none)
    (z_int : PySem.W.nsIn K mainGlobals "int" = some none)
    (z_bool : PySem.W.nsIn K mainGlobals "bool" = some none)
    (z_str : PySem.W.nsIn K mainGlobals "str" = some none)
    (z_tuple : PySem.W.nsIn K mainGlobals "tuple" = some none)
    (z_zip : PySem.W.nsIn K mainGlobals "zip" = some none)
    (z_enumerate : PySem.W.nsIn K mainGlobals "enumerate" = some none)
    (z_reversed : PySem.W.nsIn K mainGlobals "reversed" = some none)
    (z_any : PySem.W.nsIn K mainGlobals "any" = some none)
    (z_sorted : PySem.W.nsIn K mainGlobals "sorted" = some none)
    (z_sum : PySem.W.nsIn K mainGlobals "sum" = some none)
    (z_min : PySem.W.nsIn K mainGlobals "min" = some none)
    (z_set : PySem.W.nsIn K mainGlobals "set" = some none)
    (z_ValueError : PySem.W.nsIn K mainGlobals "ValueError" = some none)
    (z_gcd : PySem.W.nsIn K mainGlobals "gcd" = some (some (.builtin "math.gcd")))
    (a_FIELDS : PySem.W.nsIn K mainGlobals "FIELDS" = some (some (.ref aFIELDS))) (l_FIELDS : K.lookup aFIELDS = some ⟨.type "tuple", odFIELDS, .seq itsFIELDS nFIELDS, slFIELDS⟩) (v_FIELDS : Vals (fieldsL.map V.int) itsFIELDS.toList)
    (a_MOST_PLACES : PySem.W.nsIn K mainGlobals "MOST_PLACES" = some (some (.int 8 tMOST_PLACES)))
    (a_MOST_TIES : PySem.W.nsIn K mainGlobals "MOST_TIES" = some (some (.int 12 tMOST_TIES)))
    (a_MOST_ROOM : PySem.W.nsIn K mainGlobals "MOST_ROOM" = some (some (.int 3 tMOST_ROOM)))
    (a_MOST_FIGURE : PySem.W.nsIn K mainGlobals "MOST_FIGURE" = some (some (.int 99 tMOST_FIGURE)))
    (l_code : K.lookup cL = some ⟨.type "code", ddL, .fields vsL, slL⟩) (v_11 : vsL[11]? = some (.ref PT)) (v_g11 : vsL.getD 11 .none = .ref PT) (v_18 : vsL.getD 18 .none = .str fileL tfL) (v_7 : vsL.getD 7 .none = .int flagsL tgL) (v_9 : vsL.getD 9 .none = .bool inFL) (v_10 : vsL.getD 10 .none = .int textL ttL) (n_cP : cL ≠ PT) (n_PT : K.lookup PT = none)
    (l_code__law_seen_so : K.lookup cL__law_seen_so = some ⟨.type "code", ddL__law_seen_so, .fields vsL__law_seen_so, slL__law_seen_so⟩) (v_11__law_seen_so : vsL__law_seen_so[11]? = some (.ref PT__law_seen_so)) (v_g11__law_seen_so : vsL__law_seen_so.getD 11 .none = .ref PT__law_seen_so) (v_18__law_seen_so : vsL__law_seen_so.getD 18 .none = .str fileL__law_seen_so tfL__law_seen_so) (v_7__law_seen_so : vsL__law_seen_so.getD 7 .none = .int flagsL__law_seen_so tgL__law_seen_so) (v_9__law_seen_so : vsL__law_seen_so.getD 9 .none = .bool inFL__law_seen_so) (v_10__law_seen_so : vsL__law_seen_so.getD 10 .none = .int textL__law_seen_so ttL__law_seen_so) (n_cP__law_seen_so : cL__law_seen_so ≠ PT__law_seen_so) (n_PT__law_seen_so : K.lookup PT__law_seen_so = none)
    (n_PP0_1 : PT ≠ PT__law_seen_so)
    (n_PP1_0 : PT__law_seen_so ≠ PT)
    (i_I : PySem.W.findIn K (.ref CW) "__init__" = some (some (.ref fI)))
    (l_I : K.lookup fI = some ⟨ocI, odI, .func (PySem.W.fnOf "__init__" "WebError.__init__" (defArgs s_init) (defBody s_init) (defScope s_init) dVI kVI dcI pmI anI cdI ctI), slI⟩) (c_I : PySem.W.codeIn K cdI "WebError.__init__" = true) (k_I : PySem.W.keepIn K (.ref fI) = true) (y_I : PySem.W.typeIn K (.ref fI) = some (.type "function")) (t_I : DflV K dVI [.str ""]) (v_VI : PySem.W.findCls K (.type "ValueError") (.type "type") "__init__" = some (.val (.builtin "ValueError.__init__")))
    (n_cg : PySem.W.specialIn K (.builtin "object.__class__") "__get__" = some (some (.builtin "getset_descriptor.__get__"))) (t_cg : PySem.W.takesIn K (.builtin "object.__class__") = some true)
    (a_BadView : PySem.W.nsIn K mainGlobals "BadView" = some (some (.ref C_BadView)))
    (x_BadView : K.lookup C_BadView = some (excClassObj nm_BadView q_BadView C_BadView N_BadView bs_BadView bm_BadView true sn_BadView sub_BadView ab_BadView col_BadView dd_BadView k0_BadView k1_BadView (some (.str n2_BadView tk_BadView)) k3_BadView k5_BadView "ValueError.__new__"))
    (r_BadView : PySem.HandSPX.refsVE bm_BadView = true)
    (w_BadView : Txt.lower n2_BadView = "badview")
    (n_BadView : n2_BadView.length ≤ 5592405)
    (sa_BadView : PySem.W.findIn K (.ref C_BadView) "__setattr__" = some (some (.builtin "object.__setattr__")))
    (ga_BadView : PySem.W.findIn K (.ref C_BadView) "__getattribute__" = some (some (.builtin "BaseException.__getattribute__")))
    (gg_BadView : PySem.W.findIn K (.ref C_BadView) "__getattr__" = some none)
    (xc_BadView : PySem.W.subIn K (.ref C_BadView) (.type "BaseException") = some true)
    (y_BadView : PySem.W.typeIn K (.ref C_BadView) = some (.type "type"))
    (k_BadView : PySem.W.keepIn K (.ref C_BadView) = true)
    (d_BadView : PySem.W.hasDictIn K C_BadView = true)
    (c_BadView : PySem.W.findIn K (.ref C_BadView) "__class__" = some (some (.builtin "object.__class__")))
    (m_BadView : PySem.W.mroIn K C_BadView (.type "object") = some true)
    (rd_BadView : PySem.W.readsIn K C_BadView (.type "type") = true)
    (f_BadView : PySem.W.findCls K (.ref C_BadView) (.type "type") "__name__" = some (.get (.builtin "getset_descriptor.__get__") (.builtin "type.__name__") (.ref C_BadView) (.type "type")))
    (o_BadView : PySem.W.findIn K (.ref C_BadView) "word" = some none)
    (i_BadView : PySem.W.findIn K (.ref C_BadView) "__init__" = some (some (.ref fI)))
    (s_BadView : PySem.W.subIn K (.ref C_BadView) (.ref CW) = some true)
    (a_BadWhole : PySem.W.nsIn K mainGlobals "BadWhole" = some (some (.ref C_BadWhole)))
    (x_BadWhole : K.lookup C_BadWhole = some (excClassObj nm_BadWhole q_BadWhole C_BadWhole N_BadWhole bs_BadWhole bm_BadWhole true sn_BadWhole sub_BadWhole ab_BadWhole col_BadWhole dd_BadWhole k0_BadWhole k1_BadWhole (some (.str n2_BadWhole tk_BadWhole)) k3_BadWhole k5_BadWhole "ValueError.__new__"))
    (r_BadWhole : PySem.HandSPX.refsVE bm_BadWhole = true)
    (w_BadWhole : Txt.lower n2_BadWhole = "badwhole")
    (n_BadWhole : n2_BadWhole.length ≤ 5592405)
    (sa_BadWhole : PySem.W.findIn K (.ref C_BadWhole) "__setattr__" = some (some (.builtin "object.__setattr__")))
    (ga_BadWhole : PySem.W.findIn K (.ref C_BadWhole) "__getattribute__" = some (some (.builtin "BaseException.__getattribute__")))
    (gg_BadWhole : PySem.W.findIn K (.ref C_BadWhole) "__getattr__" = some none)
    (xc_BadWhole : PySem.W.subIn K (.ref C_BadWhole) (.type "BaseException") = some true)
    (y_BadWhole : PySem.W.typeIn K (.ref C_BadWhole) = some (.type "type"))
    (k_BadWhole : PySem.W.keepIn K (.ref C_BadWhole) = true)
    (d_BadWhole : PySem.W.hasDictIn K C_BadWhole = true)
    (c_BadWhole : PySem.W.findIn K (.ref C_BadWhole) "__class__" = some (some (.builtin "object.__class__")))
    (m_BadWhole : PySem.W.mroIn K C_BadWhole (.type "object") = some true)
    (rd_BadWhole : PySem.W.readsIn K C_BadWhole (.type "type") = true)
    (f_BadWhole : PySem.W.findCls K (.ref C_BadWhole) (.type "type") "__name__" = some (.get (.builtin "getset_descriptor.__get__") (.builtin "type.__name__") (.ref C_BadWhole) (.type "type")))
    (o_BadWhole : PySem.W.findIn K (.ref C_BadWhole) "word" = some none)
    (i_BadWhole : PySem.W.findIn K (.ref C_BadWhole) "__init__" = some (some (.ref fI)))
    (s_BadWhole : PySem.W.subIn K (.ref C_BadWhole) (.ref CW) = some true) :
    LamX.LawAtS l w K CX0 13 63 "_law_script" mg fa h := by
  have e := hfa.symm.trans (PySem.W.mg_of X G a_law)
  cases e
  have B : Bn mg := { gcd := PySem.W.mg_of X G z_gcd, len := PySem.W.mg_none_of X G z_len, range := PySem.W.mg_none_of X G z_range, all := PySem.W.mg_none_of X G z_all, abs := PySem.W.mg_none_of X G z_abs, list := PySem.W.mg_none_of X G z_list, isinstance := PySem.W.mg_none_of X G z_isinstance, int := PySem.W.mg_none_of X G z_int, bool := PySem.W.mg_none_of X G z_bool, str := PySem.W.mg_none_of X G z_str, tuple := PySem.W.mg_none_of X G z_tuple, zip := PySem.W.mg_none_of X G z_zip, enumerate := PySem.W.mg_none_of X G z_enumerate, reversed := PySem.W.mg_none_of X G z_reversed, any := PySem.W.mg_none_of X G z_any, sorted := PySem.W.mg_none_of X G z_sorted, sum := PySem.W.mg_none_of X G z_sum, min := PySem.W.mg_none_of X G z_min, set := PySem.W.mg_none_of X G z_set }
  have sFIELDS : itsFIELDS.size ≤ sizeLine := by
    have e : ((fieldsL.map V.int) : List V).length = itsFIELDS.toList.length := v_FIELDS.length
    have e2 : itsFIELDS.size = itsFIELDS.toList.length := (Array.length_toList ..).symm
    rw [e2, ← e]
    decide
  have TF : FieldsAt K mg := ⟨aFIELDS, PySem.W.mg_of X G a_FIELDS, fun H => .inr ⟨_, itsFIELDS, nFIELDS, l_FIELDS, rfl, rfl, sFIELDS, v_FIELDS⟩⟩
  have WT : WebAt mg := ⟨⟨_, PySem.W.mg_of X G a_MOST_PLACES⟩, ⟨_, PySem.W.mg_of X G a_MOST_TIES⟩, ⟨_, PySem.W.mg_of X G a_MOST_ROOM⟩, _, PySem.W.mg_of X G a_MOST_FIGURE⟩
  have mW := PySem.W.mg_of X G a_WebError
  have mM := PySem.W.mg_of X G a_Missing
  have E_BadView : ErrC K mg (CW, CM) "BadView" C_BadView fI "badview" :=
    { oex := ⟨⟨_, _, _, _, _, _, _, _, _, _, _, _, _, _, _, x_BadView, r_BadView⟩, sa_BadView, xc_BadView, y_BadView, k_BadView⟩, exc := ⟨ga_BadView, gg_BadView, xc_BadView, d_BadView, c_BadView, n_cg, t_cg, m_BadView⟩, nm := ⟨n2_BadView, ⟨y_BadView, rd_BadView, f_BadView, _, tk_BadView, x_BadView, rfl⟩, n_BadView, w_BadView⟩, xf := ⟨ga_BadView, gg_BadView, xc_BadView, d_BadView⟩, noW := o_BadView, mgC := PySem.W.mg_of X G a_BadView, iC := i_BadView, te := exm_of s_W i_W y_W s_BadView }
  have E_BadWhole : ErrC K mg (CW, CM) "BadWhole" C_BadWhole fI "badwhole" :=
    { oex := ⟨⟨_, _, _, _, _, _, _, _, _, _, _, _, _, _, _, x_BadWhole, r_BadWhole⟩, sa_BadWhole, xc_BadWhole, y_BadWhole, k_BadWhole⟩, exc := ⟨ga_BadWhole, gg_BadWhole, xc_BadWhole, d_BadWhole, c_BadWhole, n_cg, t_cg, m_BadWhole⟩, nm := ⟨n2_BadWhole, ⟨y_BadWhole, rd_BadWhole, f_BadWhole, _, tk_BadWhole, x_BadWhole, rfl⟩, n_BadWhole, w_BadWhole⟩, xf := ⟨ga_BadWhole, gg_BadWhole, xc_BadWhole, d_BadWhole⟩, noW := o_BadWhole, mgC := PySem.W.mg_of X G a_BadWhole, iC := i_BadWhole, te := exm_of s_W i_W y_W s_BadWhole }
  refine ⟨PySem.W.fnOf "law" "law" (defArgs s_law) (defBody s_law) (defScope s_law) .none kV_law dc_law pm_law an_law (.ref cL) ct_law, [(cL, PT), (cL__law_seen_so, PT__law_seen_so)], spLawT K [(PT, qLam), (PT__law_seen_so, ("_law_seen_so.<locals>.<lambda>" : Str))], fun p hp => ?_, fun p hp => ?_, fun p hp => ?_, fun s u => .of_eq rfl, fun H a ns _ _ hT hS => ?_, fun base _ _ hTB => ?_⟩
  · simp only [List.mem_cons, List.not_mem_nil, or_false] at hp
    rcases hp with rfl | rfl
    · exact OT "law" (by simp) _ (PySem.W.mg_of X G a_law) cL PT _ _ _ _ _ _ l_law rfl rfl l_code v_11
    · exact OT "_law_seen_so" (by simp) _ (PySem.W.mg_of X G a__law_seen_so) cL__law_seen_so PT__law_seen_so _ _ _ _ _ _ l__law_seen_so rfl rfl l_code__law_seen_so v_11__law_seen_so
  · simp only [List.mem_cons, List.not_mem_nil, or_false] at hp
    rcases hp with rfl | rfl
    · exact n_PT
    · exact n_PT__law_seen_so
  · simp only [List.mem_cons, List.not_mem_nil, or_false] at hp
    rcases hp with rfl | rfl
    · exact ⟨_, vsL, fileL, tfL, flagsL, tgL, inFL, textL, ttL, X _ _ l_code, rfl, rfl, v_11, v_g11, v_18, v_7, v_9, v_10, n_cP⟩
    · exact ⟨_, vsL__law_seen_so, fileL__law_seen_so, tfL__law_seen_so, flagsL__law_seen_so, tgL__law_seen_so, inFL__law_seen_so, textL__law_seen_so, ttL__law_seen_so, X _ _ l_code__law_seen_so, rfl, rfl, v_11__law_seen_so, v_g11__law_seen_so, v_18__law_seen_so, v_7__law_seen_so, v_9__law_seen_so, v_10__law_seen_so, n_cP__law_seen_so⟩
  · refine ⟨a, ns, rfl, hS, fun p hp => ?_, fun _ => rfl⟩
    simp only [List.mem_cons, List.not_mem_nil, or_false] at hp
    rcases hp with rfl | rfl
    · exact hT (cL, PT) (by simp)
    · exact hT (cL__law_seen_so, PT__law_seen_so) (by simp)
  have TB : LamX.TabB base mg cL PT := hTB (cL, PT) (by simp)
  have TB__law_seen_so : LamX.TabB base mg cL__law_seen_so PT__law_seen_so := hTB (cL__law_seen_so, PT__law_seen_so) (by simp)
  have hTL : (PT, qLam) ∈ [(PT, qLam), (PT__law_seen_so, ("_law_seen_so.<locals>.<lambda>" : Str))] := by simp
  have huL : ∀ p ∈ [(PT, qLam), (PT__law_seen_so, ("_law_seen_so.<locals>.<lambda>" : Str))], p.1 = PT → p.2 = qLam := fun p hp e => by
    simp only [List.mem_cons, List.not_mem_nil, or_false] at hp
    rcases hp with rfl | rfl
    · rfl
    · exact absurd e n_PP1_0
  have hTL__law_seen_so : (PT__law_seen_so, ("_law_seen_so.<locals>.<lambda>" : Str)) ∈ [(PT, qLam), (PT__law_seen_so, ("_law_seen_so.<locals>.<lambda>" : Str))] := by simp
  have huL__law_seen_so : ∀ p ∈ [(PT, qLam), (PT__law_seen_so, ("_law_seen_so.<locals>.<lambda>" : Str))], p.1 = PT__law_seen_so → p.2 = ("_law_seen_so.<locals>.<lambda>" : Str) := fun p hp e => by
    simp only [List.mem_cons, List.not_mem_nil, or_false] at hp
    rcases hp with rfl | rfl
    · exact absurd e n_PP0_1
    · rfl
  have G_init := d_init (P := l.prog) (w := w) (base := base) ⟨⟨_, _, _, _, _, _, _, _, _, _, rfl, l_I, c_I, t_I, .inl rfl⟩, k_I⟩ (PySem.W.mg_none_of X G z_ValueError) v_VI y_I
  have Wb := (fun_mk (st := s__law_why) l__law_why c__law_why k__law_why).binds (ps := ["_law_ask"]) fun _ _ _ _ _ _ us hl => match us, hl with | [_], _ => rfl
  have W : WhyAt K mg f__law_why oc__law_why od__law_why kV__law_why dc__law_why pm__law_why an__law_why cd__law_why ct__law_why sl__law_why := ⟨PySem.W.mg_of X G a__law_why, k__law_why, l__law_why, c__law_why, Wb⟩
  have R__law_open : Raw K mg "_law_open" s__law_open := ⟨_, _, fun_mk (st := s__law_open) l__law_open c__law_open k__law_open, PySem.W.mg_of X G a__law_open⟩
  have D__law_open := d__law_open (P := l.prog) (w := w) (base := base) R__law_open B 
  have R__law_draw : Raw K mg "_law_draw" s__law_draw := ⟨_, _, fun_mk (st := s__law_draw) l__law_draw c__law_draw k__law_draw, PySem.W.mg_of X G a__law_draw⟩
  have D__law_draw := d__law_draw (P := l.prog) (w := w) (base := base) R__law_draw B 
  have R__law_any : Raw K mg "_law_any" s__law_any := ⟨_, _, fun_mk (st := s__law_any) l__law_any c__law_any k__law_any, PySem.W.mg_of X G a__law_any⟩
  have D__law_any := d__law_any (P := l.prog) (w := w) (base := base) R__law_any B D__law_draw
  have R__law_primes : Raw K mg "_law_primes" s__law_primes := ⟨_, _, fun_mk (st := s__law_primes) l__law_primes c__law_primes k__law_primes, PySem.W.mg_of X G a__law_primes⟩
  have D__law_primes := d__law_primes (P := l.prog) (w := w) (base := base) R__law_primes  
  have R__law_field : Raw K mg "_law_field" s__law_field := ⟨_, _, fun_mk (st := s__law_field) l__law_field c__law_field k__law_field, PySem.W.mg_of X G a__law_field⟩
  have D__law_field := d__law_field (P := l.prog) (w := w) (base := base) R__law_field  D__law_draw D__law_any D__law_primes
  have R__law_gcd : Raw K mg "_law_gcd" s__law_gcd := ⟨_, _, fun_mk (st := s__law_gcd) l__law_gcd c__law_gcd k__law_gcd, PySem.W.mg_of X G a__law_gcd⟩
  have D__law_gcd := d__law_gcd (P := l.prog) (w := w) (base := base) R__law_gcd B 
  have R__law_num : Raw K mg "_law_num" s__law_num := ⟨_, _, fun_mk (st := s__law_num) l__law_num c__law_num k__law_num, PySem.W.mg_of X G a__law_num⟩
  have D__law_num := d__law_num (P := l.prog) (w := w) (base := base) R__law_num B D__law_gcd
  have R__law_number : Raw K mg "_law_number" s__law_number := ⟨_, _, fun_mk (st := s__law_number) l__law_number c__law_number k__law_number, PySem.W.mg_of X G a__law_number⟩
  have D__law_number := d__law_number (P := l.prog) (w := w) (base := base) R__law_number  D__law_draw D__law_num
  have R__law_row : Raw K mg "_law_row" s__law_row := ⟨_, _, fun_mk (st := s__law_row) l__law_row c__law_row k__law_row, PySem.W.mg_of X G a__law_row⟩
  have D__law_row := d__law_row (P := l.prog) (w := w) (base := base) R__law_row B D__law_number
  have R__law_nothing : Raw K mg "_law_nothing" s__law_nothing := ⟨_, _, fun_mk (st := s__law_nothing) l__law_nothing c__law_nothing k__law_nothing, PySem.W.mg_of X G a__law_nothing⟩
  have D__law_nothing := d__law_nothing (P := l.prog) (w := w) (base := base) R__law_nothing  
  have R__law_end_table : Raw K mg "_law_end_table" s__law_end_table := ⟨_, _, fun_mk (st := s__law_end_table) l__law_end_table c__law_end_table k__law_end_table, PySem.W.mg_of X G a__law_end_table⟩
  have D__law_end_table := d__law_end_table (P := l.prog) (w := w) (base := base) R__law_end_table B D__law_draw D__law_number D__law_row D__law_nothing
  have R__law_web : Raw K mg "_law_web" s__law_web := ⟨_, _, fun_mk (st := s__law_web) l__law_web c__law_web k__law_web, PySem.W.mg_of X G a__law_web⟩
  have D__law_web := d__law_web (P := l.prog) (w := w) (base := base) R__law_web B D__law_draw D__law_end_table
  have R__law_plus : Raw K mg "_law_plus" s__law_plus := ⟨_, _, fun_mk (st := s__law_plus) l__law_plus c__law_plus k__law_plus, PySem.W.mg_of X G a__law_plus⟩
  have D__law_plus := d__law_plus (P := l.prog) (w := w) (base := base) R__law_plus  D__law_num
  have R__law_added : Raw K mg "_law_added" s__law_added := ⟨_, _, fun_mk (st := s__law_added) l__law_added c__law_added k__law_added, PySem.W.mg_of X G a__law_added⟩
  have D__law_added := d__law_added (P := l.prog) (w := w) (base := base) R__law_added B D__law_plus
  have R__law_times : Raw K mg "_law_times" s__law_times := ⟨_, _, fun_mk (st := s__law_times) l__law_times c__law_times k__law_times, PySem.W.mg_of X G a__law_times⟩
  have D__law_times := d__law_times (P := l.prog) (w := w) (base := base) R__law_times  D__law_num
  have R__law_scaled : Raw K mg "_law_scaled" s__law_scaled := ⟨_, _, fun_mk (st := s__law_scaled) l__law_scaled c__law_scaled k__law_scaled, PySem.W.mg_of X G a__law_scaled⟩
  have D__law_scaled := d__law_scaled (P := l.prog) (w := w) (base := base) R__law_scaled B D__law_times
  have R__law_less : Raw K mg "_law_less" s__law_less := ⟨_, _, fun_mk (st := s__law_less) l__law_less c__law_less k__law_less, PySem.W.mg_of X G a__law_less⟩
  have D__law_less := d__law_less (P := l.prog) (w := w) (base := base) R__law_less  
  have R__law_turning_table : Raw K mg "_law_turning_table" s__law_turning_table := ⟨_, _, fun_mk (st := s__law_turning_table) l__law_turning_table c__law_turning_table k__law_turning_table, PySem.W.mg_of X G a__law_turning_table⟩
  have D__law_turning_table := d__law_turning_table (P := l.prog) (w := w) (base := base) R__law_turning_table B D__law_added D__law_scaled D__law_draw D__law_num D__law_less
  have R__law_stiff_web : Raw K mg "_law_stiff_web" s__law_stiff_web := ⟨_, _, fun_mk (st := s__law_stiff_web) l__law_stiff_web c__law_stiff_web k__law_stiff_web, PySem.W.mg_of X G a__law_stiff_web⟩
  have D__law_stiff_web := d__law_stiff_web (P := l.prog) (w := w) (base := base) R__law_stiff_web B D__law_draw D__law_turning_table
  have R__law_some_web : Raw K mg "_law_some_web" s__law_some_web := ⟨_, _, fun_mk (st := s__law_some_web) l__law_some_web c__law_some_web k__law_some_web, PySem.W.mg_of X G a__law_some_web⟩
  have D__law_some_web := d__law_some_web (P := l.prog) (w := w) (base := base) R__law_some_web B D__law_field D__law_web D__law_draw D__law_stiff_web
  have R__law_bent_places : Raw K mg "_law_bent_places" s__law_bent_places := ⟨_, _, fun_mk (st := s__law_bent_places) l__law_bent_places c__law_bent_places k__law_bent_places, PySem.W.mg_of X G a__law_bent_places⟩
  have D__law_bent_places := d__law_bent_places (P := l.prog) (w := w) (base := base) R__law_bent_places B D__law_draw D__law_any
  have R__law_good_view : Raw K mg "_law_good_view" s__law_good_view := ⟨_, _, fun_mk (st := s__law_good_view) l__law_good_view c__law_good_view k__law_good_view, PySem.W.mg_of X G a__law_good_view⟩
  have D__law_good_view := d__law_good_view (P := l.prog) (w := w) (base := base) R__law_good_view B 
  have R__law_whole : Raw K mg "_law_whole" s__law_whole := ⟨_, _, fun_mk (st := s__law_whole) l__law_whole c__law_whole k__law_whole, PySem.W.mg_of X G a__law_whole⟩
  have D__law_whole := d__law_whole (P := l.prog) (w := w) (base := base) R__law_whole B D__law_row
  have R__law_places : Raw K mg "_law_places" s__law_places := ⟨_, _, fun_mk (st := s__law_places) l__law_places c__law_places k__law_places, PySem.W.mg_of X G a__law_places⟩
  have D__law_places := d__law_places (P := l.prog) (w := w) (base := base) R__law_places B D__law_draw
  have R__law_cover : Raw K mg "_law_cover" s__law_cover := ⟨_, _, fun_mk (st := s__law_cover) l__law_cover c__law_cover k__law_cover, PySem.W.mg_of X G a__law_cover⟩
  have D__law_cover := d__law_cover (P := l.prog) (w := w) (base := base) R__law_cover B D__law_places D__law_draw
  have R__law_covers : Raw K mg "_law_covers" s__law_covers := ⟨_, _, fun_mk (st := s__law_covers) l__law_covers c__law_covers k__law_covers, PySem.W.mg_of X G a__law_covers⟩
  have D__law_covers := d__law_covers (P := l.prog) (w := w) (base := base) R__law_covers B 
  have R__law_bent_columns : Raw K mg "_law_bent_columns" s__law_bent_columns := ⟨_, _, fun_mk (st := s__law_bent_columns) l__law_bent_columns c__law_bent_columns k__law_bent_columns, PySem.W.mg_of X G a__law_bent_columns⟩
  have D__law_bent_columns := d__law_bent_columns (P := l.prog) (w := w) (base := base) R__law_bent_columns B D__law_draw D__law_any
  have R__law_is_number : Raw K mg "_law_is_number" s__law_is_number := ⟨_, _, fun_mk (st := s__law_is_number) l__law_is_number c__law_is_number k__law_is_number, PySem.W.mg_of X G a__law_is_number⟩
  have D__law_is_number := d__law_is_number (P := l.prog) (w := w) (base := base) R__law_is_number  D__law_gcd
  have R__law_numbers_good : Raw K mg "_law_numbers_good" s__law_numbers_good := ⟨_, _, fun_mk (st := s__law_numbers_good) l__law_numbers_good c__law_numbers_good k__law_numbers_good, PySem.W.mg_of X G a__law_numbers_good⟩
  have D__law_numbers_good := d__law_numbers_good (P := l.prog) (w := w) (base := base) R__law_numbers_good B D__law_is_number
  have R__law_are_columns : Raw K mg "_law_are_columns" s__law_are_columns := ⟨_, _, fun_mk (st := s__law_are_columns) l__law_are_columns c__law_are_columns k__law_are_columns, PySem.W.mg_of X G a__law_are_columns⟩
  have D__law_are_columns := d__law_are_columns (P := l.prog) (w := w) (base := base) R__law_are_columns B D__law_numbers_good
  have R__law_int : Raw K mg "_law_int" s__law_int := ⟨_, _, fun_mk (st := s__law_int) l__law_int c__law_int k__law_int, PySem.W.mg_of X G a__law_int⟩
  have D__law_int := d__law_int (P := l.prog) (w := w) (base := base) R__law_int B 
  have F__law_like := fun_mk (st := s__law_like) l__law_like c__law_like k__law_like
  have m__law_like := PySem.W.mg_of X G a__law_like
  have D__law_like := like_ok (P := l.prog) (w := w) (base := base) F__law_like m__law_like B D__law_int
  have b__law_like := F__law_like.binds (ps := ["_law_found", "_law_due"]) fun _ _ _ _ _ _ us hl => match us, hl with | [_, _], _ => rfl
  have R_is_field : Raw K mg "is_field" s_is_field := ⟨_, _, fun_mk (st := s_is_field) l_is_field c_is_field k_is_field, PySem.W.mg_of X G a_is_field⟩
  have D_is_field := d_is_field (P := l.prog) (w := w) (base := base) R_is_field TF 
  have R_check_field : Raw K mg "check_field" s_check_field := ⟨_, _, fun_mk (st := s_check_field) l_check_field c_check_field k_check_field, PySem.W.mg_of X G a_check_field⟩
  have D_check_field := d_check_field (P := l.prog) (w := w) (base := base) R_check_field  D_is_field
  have R_is_room : Raw K mg "is_room" s_is_room := ⟨_, _, fun_mk (st := s_is_room) l_is_room c_is_room k_is_room, PySem.W.mg_of X G a_is_room⟩
  have D_is_room := d_is_room (P := l.prog) (w := w) (base := base) R_is_room WT 
  have R_fits : Raw K mg "fits" s_fits := ⟨_, _, fun_mk (st := s_fits) l_fits c_fits k_fits, PySem.W.mg_of X G a_fits⟩
  have D_fits := d_fits (P := l.prog) (w := w) (base := base) R_fits B 
  have R_is_short : Raw K mg "is_short" s_is_short := ⟨_, _, fun_mk (st := s_is_short) l_is_short c_is_short k_is_short, PySem.W.mg_of X G a_is_short⟩
  have D_is_short := d_is_short (P := l.prog) (w := w) (base := base) R_is_short WT D_fits
  have R_is_table : Raw K mg "is_table" s_is_table := ⟨_, _, fun_mk (st := s_is_table) l_is_table c_is_table k_is_table, PySem.W.mg_of X G a_is_table⟩
  have D_is_table := d_is_table (P := l.prog) (w := w) (base := base) R_is_table B D_is_short
  have R_is_place : Raw K mg "is_place" s_is_place := ⟨_, _, fun_mk (st := s_is_place) l_is_place c_is_place k_is_place, PySem.W.mg_of X G a_is_place⟩
  have D_is_place := d_is_place (P := l.prog) (w := w) (base := base) R_is_place B 
  have R_is_tie : Raw K mg "is_tie" s_is_tie := ⟨_, _, fun_mk (st := s_is_tie) l_is_tie c_is_tie k_is_tie, PySem.W.mg_of X G a_is_tie⟩
  have D_is_tie := d_is_tie (P := l.prog) (w := w) (base := base) R_is_tie B D_is_table D_is_place D_is_room
  have R_is_web : Raw K mg "is_web" s_is_web := ⟨_, _, fun_mk (st := s_is_web) l_is_web c_is_web k_is_web, PySem.W.mg_of X G a_is_web⟩
  have D_is_web := d_is_web (P := l.prog) (w := w) (base := base) R_is_web B WT D_check_field D_is_room D_is_tie
  have R_check_web : Raw K mg "check_web" s_check_web := ⟨_, _, fun_mk (st := s_check_web) l_check_web c_check_web k_check_web, PySem.W.mg_of X G a_check_web⟩
  have D_check_web := d_check_web (P := l.prog) (w := w) (base := base) R_check_web B D_is_web
  have R_check_view : Raw K mg "check_view" s_check_view := ⟨_, _, fun_mk (st := s_check_view) l_check_view c_check_view k_check_view, PySem.W.mg_of X G a_check_view⟩
  have D_check_view := d_check_view (P := l.prog) (w := w) (base := base) (CW := (CW, CM)) (fI := fI) (fJ := fI) R_check_view B D_is_place E_BadView G_init
  have R_is_column : Raw K mg "is_column" s_is_column := ⟨_, _, fun_mk (st := s_is_column) l_is_column c_is_column k_is_column, PySem.W.mg_of X G a_is_column⟩
  have D_is_column := d_is_column (P := l.prog) (w := w) (base := base) R_is_column B D_fits
  have R_are_columns : Raw K mg "are_columns" s_are_columns := ⟨_, _, fun_mk (st := s_are_columns) l_are_columns c_are_columns k_are_columns, PySem.W.mg_of X G a_are_columns⟩
  have D_are_columns := d_are_columns (P := l.prog) (w := w) (base := base) R_are_columns B D_is_column
  have R_check_whole : Raw K mg "check_whole" s_check_whole := ⟨_, _, fun_mk (st := s_check_whole) l_check_whole c_check_whole k_check_whole, PySem.W.mg_of X G a_check_whole⟩
  have D_check_whole := d_check_whole (P := l.prog) (w := w) (base := base) (CW := (CW, CM)) (fI := fI) (fJ := fI) R_check_whole B D_are_columns E_BadWhole G_init
  have R_seen : Raw K mg "seen" s_seen := ⟨_, _, fun_mk (st := s_seen) l_seen c_seen k_seen, PySem.W.mg_of X G a_seen⟩
  have D_seen := d_seen (P := l.prog) (w := w) (base := base) (CW := (CW, CM)) (fI := fI) (fJ := fI) R_seen B D_check_web D_check_view D_check_whole 
  have b__law_seen_so := (fun_mk (st := s__law_seen_so) l__law_seen_so c__law_seen_so k__law_seen_so).binds (ps := ["_law_web_here", "_law_places_here", "_law_whole_here", "_law_due"]) fun _ _ _ _ _ _ us hl => match us, hl with | [_, _, _, _], _ => rfl
  have D__law_seen_so := d__law_seen_so (P := l.prog) (w := w) (base := base) (CW := (CW, CM)) l__law_seen_so c__law_seen_so (PySem.W.mg_of X G a__law_seen_so) k__law_seen_so b__law_seen_so TB__law_seen_so hTL__law_seen_so huL__law_seen_so W mW mM B True.intro ⟨D__law_like, m__law_like, k__law_like, b__law_like⟩ D_seen
  have R__law_view : Raw K mg "_law_view" s__law_view := ⟨_, _, fun_mk (st := s__law_view) l__law_view c__law_view k__law_view, PySem.W.mg_of X G a__law_view⟩
  have D__law_view := d__law_view (P := l.prog) (w := w) (base := base) R__law_view B 
  have R_covered : Raw K mg "covered" s_covered := ⟨_, _, fun_mk (st := s_covered) l_covered c_covered k_covered, PySem.W.mg_of X G a_covered⟩
  have D_covered := d_covered (P := l.prog) (w := w) (base := base) R_covered B 
  have R_covers : Raw K mg "covers" s_covers := ⟨_, _, fun_mk (st := s_covers) l_covers c_covers k_covers, PySem.W.mg_of X G a_covers⟩
  have D_covers := d_covers (P := l.prog) (w := w) (base := base) (CW := (CW, CM)) (fI := fI) (fJ := fI) R_covers B D_check_web D_check_view D_covered 
  have R_view_at : Raw K mg "view_at" s_view_at := ⟨_, _, fun_mk (st := s_view_at) l_view_at c_view_at k_view_at, PySem.W.mg_of X G a_view_at⟩
  have D_view_at := d_view_at (P := l.prog) (w := w) (base := base) R_view_at B 
  have R_view : Raw K mg "view" s_view := ⟨_, _, fun_mk (st := s_view) l_view c_view k_view, PySem.W.mg_of X G a_view⟩
  have D_view := d_view (P := l.prog) (w := w) (base := base) (CW := (CW, CM)) (fI := fI) (fJ := fI) R_view B D_check_web D_check_view D_view_at 
  exact law_ok (CW := (CW, CM)) l_law c_law TB hTL huL B W mW mM D__law_open D__law_some_web D__law_bent_places D__law_good_view D__law_whole D__law_cover D__law_covers D__law_places D__law_draw D__law_bent_columns D__law_are_columns D__law_seen_so D__law_view ⟨D__law_like, m__law_like, k__law_like, b__law_like⟩ True.intro D_covers D_view
end St
open PySem PySem.W PyProof.Rows
set_option maxRecDepth 100000 in
set_option maxHeartbeats 0 in
theorem PySem.Challenge.cw_stalkweb_k37_views_of_webs_holds : PySem.Challenge.rw_stalkweb_k37_views_of_webs.Holds := by
  w_on; o_law; k_head; (case hw => w_witness2)
  k_fill
  refine LamX.walk_ofOwns (l := PySem.Challenge.rw_stalkweb_k37_views_of_webs) (n := 63) (k := 13) (x := "_law_script") (CX := fun _ => L2.CX0) ["law", "_law_seen_so"] rfl (by decide) rfl ⟨rfl, by decide, by decide⟩ (by decide +kernel) (fun w h Y => PySem.W.km_in_of Y) ?F (fun _ _ _ _ _ h => h)
  case F =>
    intro w mg fa h Y KX G hmg OT
    refine' St.all_mk KX G hmg OT ?a_WebError ?a_Missing ?s_W ?i_W ?y_W ?s_M ?i_M ?y_M ?a__law_open ?l__law_open ?c__law_open ?k__law_open ?a__law_draw ?l__law_draw ?c__law_draw ?k__law_draw ?a__law_any ?l__law_any ?c__law_any ?k__law_any ?a__law_primes ?l__law_primes ?c__law_primes ?k__law_primes ?a__law_field ?l__law_field ?c__law_field ?k__law_field ?a__law_gcd ?l__law_gcd ?c__law_gcd ?k__law_gcd ?a__law_num ?l__law_num ?c__law_num ?k__law_num ?a__law_number ?l__law_number ?c__law_number ?k__law_number ?a__law_row ?l__law_row ?c__law_row ?k__law_row ?a__law_nothing ?l__law_nothing ?c__law_nothing ?k__law_nothing ?a__law_end_table ?l__law_end_table ?c__law_end_table ?k__law_end_table ?a__law_web ?l__law_web ?c__law_web ?k__law_web ?a__law_plus ?l__law_plus ?c__law_plus ?k__law_plus ?a__law_added ?l__law_added ?c__law_added ?k__law_added ?a__law_times ?l__law_times ?c__law_times ?k__law_times ?a__law_scaled ?l__law_scaled ?c__law_scaled ?k__law_scaled ?a__law_less ?l__law_less ?c__law_less ?k__law_less ?a__law_turning_table ?l__law_turning_table ?c__law_turning_table ?k__law_turning_table ?a__law_stiff_web ?l__law_stiff_web ?c__law_stiff_web ?k__law_stiff_web ?a__law_some_web ?l__law_some_web ?c__law_some_web ?k__law_some_web ?a__law_bent_places ?l__law_bent_places ?c__law_bent_places ?k__law_bent_places ?a__law_good_view ?l__law_good_view ?c__law_good_view ?k__law_good_view ?a__law_whole ?l__law_whole ?c__law_whole ?k__law_whole ?a__law_places ?l__law_places ?c__law_places ?k__law_places ?a__law_cover ?l__law_cover ?c__law_cover ?k__law_cover ?a__law_covers ?l__law_covers ?c__law_covers ?k__law_covers ?a__law_bent_columns ?l__law_bent_columns ?c__law_bent_columns ?k__law_bent_columns ?a__law_is_number ?l__law_is_number ?c__law_is_number ?k__law_is_number ?a__law_numbers_good ?l__law_numbers_good ?c__law_numbers_good ?k__law_numbers_good ?a__law_are_columns ?l__law_are_columns ?c__law_are_columns ?k__law_are_columns ?a__law_why ?l__law_why ?c__law_why ?k__law_why ?a__law_int ?l__law_int ?c__law_int ?k__law_int ?a__law_like ?l__law_like ?c__law_like ?k__law_like ?a_is_field ?l_is_field ?c_is_field ?k_is_field ?a_check_field ?l_check_field ?c_check_field ?k_check_field ?a_is_room ?l_is_room ?c_is_room ?k_is_room ?a_fits ?l_fits ?c_fits ?k_fits ?a_is_short ?l_is_short ?c_is_short ?k_is_short ?a_is_table ?l_is_table ?c_is_table ?k_is_table ?a_is_place ?l_is_place ?c_is_place ?k_is_place ?a_is_tie ?l_is_tie ?c_is_tie ?k_is_tie ?a_is_web ?l_is_web ?c_is_web ?k_is_web ?a_check_web ?l_check_web ?c_check_web ?k_check_web ?a_check_view ?l_check_view ?c_check_view ?k_check_view ?a_is_column ?l_is_column ?c_is_column ?k_is_column ?a_are_columns ?l_are_columns ?c_are_columns ?k_are_columns ?a_check_whole ?l_check_whole ?c_check_whole ?k_check_whole ?a_seen ?l_seen ?c_seen ?k_seen ?a__law_seen_so ?l__law_seen_so ?c__law_seen_so ?k__law_seen_so ?a__law_view ?l__law_view ?c__law_view ?k__law_view ?a_covered ?l_covered ?c_covered ?k_covered ?a_covers ?l_covers ?c_covers ?k_covers ?a_view_at ?l_view_at ?c_view_at ?k_view_at ?a_view ?l_view ?c_view ?k_view ?a_law ?l_law ?c_law ?k_law ?z_len ?z_range ?z_all ?z_abs ?z_list ?z_isinstance ?z_int ?z_bool ?z_str ?z_tuple ?z_zip ?z_enumerate ?z_reversed ?z_any ?z_sorted ?z_sum ?z_min ?z_set ?z_ValueError ?z_gcd ?a_FIELDS ?l_FIELDS ?v_FIELDS ?a_MOST_PLACES ?a_MOST_TIES ?a_MOST_ROOM ?a_MOST_FIGURE ?l_code ?v_11 ?v_g11 ?v_18 ?v_7 ?v_9 ?v_10 ?n_cP ?n_PT ?l_code__law_seen_so ?v_11__law_seen_so ?v_g11__law_seen_so ?v_18__law_seen_so ?v_7__law_seen_so ?v_9__law_seen_so ?v_10__law_seen_so ?n_cP__law_seen_so ?n_PT__law_seen_so ?n_PP0_1 ?n_PP1_0 ?i_I ?l_I ?c_I ?k_I ?y_I ?t_I ?v_VI ?n_cg ?t_cg ?a_BadView ?x_BadView ?r_BadView ?w_BadView ?n_BadView ?sa_BadView ?ga_BadView ?gg_BadView ?xc_BadView ?y_BadView ?k_BadView ?d_BadView ?c_BadView ?m_BadView ?rd_BadView ?f_BadView ?o_BadView ?i_BadView ?s_BadView ?a_BadWhole ?x_BadWhole ?r_BadWhole ?w_BadWhole ?n_BadWhole ?sa_BadWhole ?ga_BadWhole ?gg_BadWhole ?xc_BadWhole ?y_BadWhole ?k_BadWhole ?d_BadWhole ?c_BadWhole ?m_BadWhole ?rd_BadWhole ?f_BadWhole ?o_BadWhole ?i_BadWhole ?s_BadWhole
    (case a__law_open => k_is)
    (case a__law_draw => k_is)
    (case a__law_any => k_is)
    (case a__law_primes => k_is)
    (case a__law_field => k_is)
    (case a__law_gcd => k_is)
    (case a__law_num => k_is)
    (case a__law_number => k_is)
    (case a__law_row => k_is)
    (case a__law_nothing => k_is)
    (case a__law_end_table => k_is)
    (case a__law_web => k_is)
    (case a__law_plus => k_is)
    (case a__law_added => k_is)
    (case a__law_times => k_is)
    (case a__law_scaled => k_is)
    (case a__law_less => k_is)
    (case a__law_turning_table => k_is)
    (case a__law_stiff_web => k_is)
    (case a__law_some_web => k_is)
    (case a__law_bent_places => k_is)
    (case a__law_good_view => k_is)
    (case a__law_whole => k_is)
    (case a__law_places => k_is)
    (case a__law_cover => k_is)
    (case a__law_covers => k_is)
    (case a__law_bent_columns => k_is)
    (case a__law_is_number => k_is)
    (case a__law_numbers_good => k_is)
    (case a__law_are_columns => k_is)
    (case a__law_why => k_is)
    (case a__law_int => k_is)
    (case a__law_like => k_is)
    (case a_is_field => k_is)
    (case a_check_field => k_is)
    (case a_is_room => k_is)
    (case a_fits => k_is)
    (case a_is_short => k_is)
    (case a_is_table => k_is)
    (case a_is_place => k_is)
    (case a_is_tie => k_is)
    (case a_is_web => k_is)
    (case a_check_web => k_is)
    (case a_check_view => k_is)
    (case a_is_column => k_is)
    (case a_are_columns => k_is)
    (case a_check_whole => k_is)
    (case a_seen => k_is)
    (case a__law_seen_so => k_is)
    (case a__law_view => k_is)
    (case a_covered => k_is)
    (case a_covers => k_is)
    (case a_view_at => k_is)
    (case a_view => k_is)
    (case a_law => k_is)
    (case a_FIELDS => k_is)
    (case a_MOST_PLACES => k_is)
    (case a_MOST_TIES => k_is)
    (case a_MOST_ROOM => k_is)
    (case a_MOST_FIGURE => k_is)
    (case a_WebError => k_is)
    (case a_Missing => k_is)
    (case a_BadView => k_is)
    (case a_BadWhole => k_is)
    (case l__law_open => k_is)
    (case c__law_open => k_is)
    (case k__law_open => k_is)
    (case l__law_draw => k_is)
    (case c__law_draw => k_is)
    (case k__law_draw => k_is)
    (case l__law_any => k_is)
    (case c__law_any => k_is)
    (case k__law_any => k_is)
    (case l__law_primes => k_is)
    (case c__law_primes => k_is)
    (case k__law_primes => k_is)
    (case l__law_field => k_is)
    (case c__law_field => k_is)
    (case k__law_field => k_is)
    (case l__law_gcd => k_is)
    (case c__law_gcd => k_is)
    (case k__law_gcd => k_is)
    (case l__law_num => k_is)
    (case c__law_num => k_is)
    (case k__law_num => k_is)
    (case l__law_number => k_is)
    (case c__law_number => k_is)
    (case k__law_number => k_is)
    (case l__law_row => k_is)
    (case c__law_row => k_is)
    (case k__law_row => k_is)
    (case l__law_nothing => k_is)
    (case c__law_nothing => k_is)
    (case k__law_nothing => k_is)
    (case l__law_end_table => k_is)
    (case c__law_end_table => k_is)
    (case k__law_end_table => k_is)
    (case l__law_web => k_is)
    (case c__law_web => k_is)
    (case k__law_web => k_is)
    (case l__law_plus => k_is)
    (case c__law_plus => k_is)
    (case k__law_plus => k_is)
    (case l__law_added => k_is)
    (case c__law_added => k_is)
    (case k__law_added => k_is)
    (case l__law_times => k_is)
    (case c__law_times => k_is)
    (case k__law_times => k_is)
    (case l__law_scaled => k_is)
    (case c__law_scaled => k_is)
    (case k__law_scaled => k_is)
    (case l__law_less => k_is)
    (case c__law_less => k_is)
    (case k__law_less => k_is)
    (case l__law_turning_table => k_is)
    (case c__law_turning_table => k_is)
    (case k__law_turning_table => k_is)
    (case l__law_stiff_web => k_is)
    (case c__law_stiff_web => k_is)
    (case k__law_stiff_web => k_is)
    (case l__law_some_web => k_is)
    (case c__law_some_web => k_is)
    (case k__law_some_web => k_is)
    (case l__law_bent_places => k_is)
    (case c__law_bent_places => k_is)
    (case k__law_bent_places => k_is)
    (case l__law_good_view => k_is)
    (case c__law_good_view => k_is)
    (case k__law_good_view => k_is)
    (case l__law_whole => k_is)
    (case c__law_whole => k_is)
    (case k__law_whole => k_is)
    (case l__law_places => k_is)
    (case c__law_places => k_is)
    (case k__law_places => k_is)
    (case l__law_cover => k_is)
    (case c__law_cover => k_is)
    (case k__law_cover => k_is)
    (case l__law_covers => k_is)
    (case c__law_covers => k_is)
    (case k__law_covers => k_is)
    (case l__law_bent_columns => k_is)
    (case c__law_bent_columns => k_is)
    (case k__law_bent_columns => k_is)
    (case l__law_is_number => k_is)
    (case c__law_is_number => k_is)
    (case k__law_is_number => k_is)
    (case l__law_numbers_good => k_is)
    (case c__law_numbers_good => k_is)
    (case k__law_numbers_good => k_is)
    (case l__law_are_columns => k_is)
    (case c__law_are_columns => k_is)
    (case k__law_are_columns => k_is)
    (case l__law_why => k_is)
    (case c__law_why => k_is)
    (case k__law_why => k_is)
    (case l__law_int => k_is)
    (case c__law_int => k_is)
    (case k__law_int => k_is)
    (case l__law_like => k_is)
    (case c__law_like => k_is)
    (case k__law_like => k_is)
    (case l_is_field => k_is)
    (case c_is_field => k_is)
    (case k_is_field => k_is)
    (case l_check_field => k_is)
    (case c_check_field => k_is)
    (case k_check_field => k_is)
    (case l_is_room => k_is)
    (case c_is_room => k_is)
    (case k_is_room => k_is)
    (case l_fits => k_is)
    (case c_fits => k_is)
    (case k_fits => k_is)
    (case l_is_short => k_is)
    (case c_is_short => k_is)
    (case k_is_short => k_is)
    (case l_is_table => k_is)
    (case c_is_table => k_is)
    (case k_is_table => k_is)
    (case l_is_place => k_is)
    (case c_is_place => k_is)
    (case k_is_place => k_is)
    (case l_is_tie => k_is)
    (case c_is_tie => k_is)
    (case k_is_tie => k_is)
    (case l_is_web => k_is)
    (case c_is_web => k_is)
    (case k_is_web => k_is)
    (case l_check_web => k_is)
    (case c_check_web => k_is)
    (case k_check_web => k_is)
    (case l_check_view => k_is)
    (case c_check_view => k_is)
    (case k_check_view => k_is)
    (case l_is_column => k_is)
    (case c_is_column => k_is)
    (case k_is_column => k_is)
    (case l_are_columns => k_is)
    (case c_are_columns => k_is)
    (case k_are_columns => k_is)
    (case l_check_whole => k_is)
    (case c_check_whole => k_is)
    (case k_check_whole => k_is)
    (case l_seen => k_is)
    (case c_seen => k_is)
    (case k_seen => k_is)
    (case l__law_seen_so => k_is)
    (case c__law_seen_so => k_is)
    (case k__law_seen_so => k_is)
    (case l__law_view => k_is)
    (case c__law_view => k_is)
    (case k__law_view => k_is)
    (case l_covered => k_is)
    (case c_covered => k_is)
    (case k_covered => k_is)
    (case l_covers => k_is)
    (case c_covers => k_is)
    (case k_covers => k_is)
    (case l_view_at => k_is)
    (case c_view_at => k_is)
    (case k_view_at => k_is)
    (case l_view => k_is)
    (case c_view => k_is)
    (case k_view => k_is)
    (case l_law => k_is)
    (case c_law => k_is)
    (case k_law => k_is)
    (case z_len => k_is)
    (case z_range => k_is)
    (case z_all => k_is)
    (case z_abs => k_is)
    (case z_list => k_is)
    (case z_isinstance => k_is)
    (case z_int => k_is)
    (case z_bool => k_is)
    (case z_str => k_is)
    (case z_tuple => k_is)
    (case z_zip => k_is)
    (case z_enumerate => k_is)
    (case z_reversed => k_is)
    (case z_any => k_is)
    (case z_sorted => k_is)
    (case z_sum => k_is)
    (case z_min => k_is)
    (case z_set => k_is)
    (case z_ValueError => k_is)
    (case z_gcd => k_is)
    (case l_FIELDS => k_is)
    (case l_code => k_is)
    (case l_code__law_seen_so => k_is)
    (case i_I => k_is)
    (case l_I => k_is)
    (case c_I => k_is)
    (case k_I => k_is)
    (case y_I => k_is)
    (case v_VI => k_is)
    (case s_W => k_is)
    (case i_W => k_is)
    (case y_W => k_is)
    (case s_M => k_is)
    (case i_M => k_is)
    (case y_M => k_is)
    (case n_cg => k_is)
    (case t_cg => k_is)
    (case x_BadView => k_is)
    (case sa_BadView => k_is)
    (case ga_BadView => k_is)
    (case gg_BadView => k_is)
    (case xc_BadView => k_is)
    (case y_BadView => k_is)
    (case k_BadView => k_is)
    (case d_BadView => k_is)
    (case c_BadView => k_is)
    (case m_BadView => k_is)
    (case rd_BadView => k_is)
    (case f_BadView => k_is)
    (case o_BadView => k_is)
    (case i_BadView => k_is)
    (case s_BadView => k_is)
    (case x_BadWhole => k_is)
    (case sa_BadWhole => k_is)
    (case ga_BadWhole => k_is)
    (case gg_BadWhole => k_is)
    (case xc_BadWhole => k_is)
    (case y_BadWhole => k_is)
    (case k_BadWhole => k_is)
    (case d_BadWhole => k_is)
    (case c_BadWhole => k_is)
    (case m_BadWhole => k_is)
    (case rd_BadWhole => k_is)
    (case f_BadWhole => k_is)
    (case o_BadWhole => k_is)
    (case i_BadWhole => k_is)
    (case s_BadWhole => k_is)
    (case v_FIELDS => repeat (first | exact .nil | refine .cons ⟨_, rfl⟩ ?_))
    (case v_11 => rfl)
    (case v_g11 => rfl)
    (case v_18 => rfl)
    (case v_7 => rfl)
    (case v_9 => rfl)
    (case v_10 => rfl)
    (case n_cP => decide)
    (case n_PT => first | rfl | k_is | decide +kernel)
    (case v_11__law_seen_so => rfl)
    (case v_g11__law_seen_so => rfl)
    (case v_18__law_seen_so => rfl)
    (case v_7__law_seen_so => rfl)
    (case v_9__law_seen_so => rfl)
    (case v_10__law_seen_so => rfl)
    (case n_cP__law_seen_so => decide)
    (case n_PT__law_seen_so => first | rfl | k_is | decide +kernel)
    (case n_PP0_1 => decide)
    (case n_PP1_0 => decide)
    (case t_I => exact .inr ⟨by simp, _, _, _, _, rfl, (by k_is), rfl, .cons ⟨_, rfl⟩ .nil⟩)
    (case r_BadView => decide +kernel)
    (case w_BadView => decide +kernel)
    (case n_BadView => decide +kernel)
    (case r_BadWhole => decide +kernel)
    (case w_BadWhole => decide +kernel)
    (case n_BadWhole => decide +kernel)
