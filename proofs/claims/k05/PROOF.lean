import PyProof.Rows.All
import HandS.ForMost
import HandS.Wide
import HandS.WideMore
import HandS.WideBits
import HandS.RevRange
import HandS.Gcd
import HandS.IsInst
import HandS.Steps
import HandS.Style
import HandS.StrMore
import Flt.RightSqrt
import HandS.Codes
import PyProof.Rows.StrPadWhole
import HandS.NoneIn
import HandS.Deep
import HandS.SortRule
import PySem.Challenge.RW_powernumbers_k05_ways_of_powers
set_option Elab.async false
set_option linter.all false
set_option maxRecDepth 100000
set_option maxHeartbeats 4000000
set_option exponentiation.threshold 100000
/-! Roots and powers of naturals: Newton's steps, powers by bits. -/
namespace Pm
theorem two_mul_le_sq (r x : Nat) : 2 * (r * x) ≤ r * r + x * x := by
  rcases Nat.le_total r x with h | h
  · obtain ⟨d, rfl⟩ := Nat.exists_eq_add_of_le h
    have e : r * r + (r + d) * (r + d) = 2 * (r * (r + d)) + d * d := by
      simp only [Nat.mul_add, Nat.add_mul]
      have := Nat.mul_comm r d
      omega
    omega
  · obtain ⟨d, rfl⟩ := Nat.exists_eq_add_of_le h
    have e : (x + d) * (x + d) + x * x = 2 * ((x + d) * x) + d * d := by
      simp only [Nat.mul_add, Nat.add_mul]
      have := Nat.mul_comm x d
      omega
    omega
/-- (m + 1) r x ^ m ≤ r ^ (m + 1) + m x ^ (m + 1) -/
theorem bern (r x : Nat) : ∀ m : Nat, (m + 1) * (r * x ^ m) ≤ r ^ (m + 1) + m * x ^ (m + 1)
  | 0 => by simp
  | m + 1 => by
    have ih := Nat.mul_le_mul_left r (bern r x m)
    have sq := Nat.mul_le_mul_left ((m + 1) * x ^ m) (two_mul_le_sq r x)
    have e1 : r * ((m + 1) * (r * x ^ m)) = (m + 1) * x ^ m * (r * r) := by
      simp only [Nat.mul_comm, Nat.mul_left_comm, Nat.mul_assoc]
    have e2 : r * (r ^ (m + 1) + m * x ^ (m + 1)) = r ^ (m + 2) + m * (r * x ^ (m + 1)) := by
      rw [Nat.mul_add, Nat.pow_succ r (m + 1), Nat.mul_comm r (r ^ (m + 1)), Nat.mul_left_comm]
    have e3 : (m + 1) * x ^ m * (2 * (r * x)) = (m + 1) * (r * x ^ (m + 1)) + (m + 1) * (r * x ^ (m + 1)) := by
      rw [Nat.pow_succ x m]
      have : (m + 1) * x ^ m * (2 * (r * x)) = 2 * ((m + 1) * (r * (x ^ m * x))) := by
        simp only [Nat.mul_comm, Nat.mul_left_comm, Nat.mul_assoc]
      omega
    have e4 : (m + 1) * x ^ m * (r * r + x * x) = (m + 1) * x ^ m * (r * r) + (m + 1) * x ^ (m + 2) := by
      rw [Nat.mul_add, Nat.pow_succ x (m + 1), Nat.pow_succ x m]
      have : (m + 1) * x ^ m * (x * x) = (m + 1) * (x ^ m * x * x) := by
        simp only [Nat.mul_comm, Nat.mul_left_comm, Nat.mul_assoc]
      omega
    have e5 : (m + 1) * (r * x ^ (m + 1)) = m * (r * x ^ (m + 1)) + r * x ^ (m + 1) := Nat.succ_mul _ _
    have e6 : (m + 1 + 1) * (r * x ^ (m + 1)) = (m + 1) * (r * x ^ (m + 1)) + r * x ^ (m + 1) := Nat.succ_mul _ _
    show (m + 1 + 1) * (r * x ^ (m + 1)) ≤ r ^ (m + 2) + (m + 1) * x ^ (m + 2)
    omega
/-- Newton's step for the (m + 1)-th root -/
def step (n m x : Nat) : Nat := (m * x + n / x ^ m) / (m + 1)
theorem step_up {n m x : Nat} (hx : 0 < x) : n < (step n m x + 1) ^ (m + 1) := by
  refine Nat.lt_of_not_le fun h => ?_
  have b := bern (step n m x + 1) x m
  have hp : 0 < x ^ m := Nat.pow_pos hx
  have d1 : m * x + n / x ^ m < (m + 1) * (step n m x + 1) := by
    have := Nat.lt_mul_div_succ (m * x + n / x ^ m) (show 0 < m + 1 from Nat.succ_pos m)
    exact this
  have d2 : n < x ^ m * (n / x ^ m + 1) := Nat.lt_mul_div_succ n hp
  have d3 : x ^ m * (m * x + (n / x ^ m + 1)) ≤ x ^ m * ((m + 1) * (step n m x + 1)) := Nat.mul_le_mul_left _ d1
  have e1 : x ^ m * (m * x + (n / x ^ m + 1)) = m * x ^ (m + 1) + x ^ m * (n / x ^ m + 1) := by
    rw [Nat.mul_add, Nat.pow_succ x m]
    have : x ^ m * (m * x) = m * (x ^ m * x) := Nat.mul_left_comm _ _ _
    omega
  have e2 : x ^ m * ((m + 1) * (step n m x + 1)) = (m + 1) * ((step n m x + 1) * x ^ m) := by
    simp only [Nat.mul_comm, Nat.mul_left_comm, Nat.mul_assoc]
  omega
theorem step_down {n m x : Nat} (h : n < x ^ (m + 1)) : step n m x < x := by
  have hx : 0 < x := by
    rcases Nat.eq_zero_or_pos x with e | e
    · rw [e, Nat.zero_pow (Nat.succ_pos m)] at h
      exact absurd h (Nat.not_lt_zero _)
    · exact e
  have hq : n / x ^ m < x := Nat.div_lt_of_lt_mul (by rw [← Nat.pow_succ]; exact h)
  unfold step
  refine Nat.div_lt_of_lt_mul ?_
  rw [Nat.succ_mul]
  omega
theorem pow_lt_of_lt {a b k : Nat} (h : a < b) (hk : 0 < k) : a ^ k < b ^ k := Nat.pow_lt_pow_left h (Nat.pos_iff_ne_zero.mp hk)
theorem lt_of_pow_lt {a b k : Nat} (h : a ^ k < b ^ k) : a < b := Nat.lt_of_not_le fun g => absurd h (Nat.not_lt.mpr (Nat.pow_le_pow_left g k))
/-- r is the k-th root of n -/
def IsRoot (n k r : Nat) : Prop := r ^ k ≤ n ∧ n < (r + 1) ^ k
theorem IsRoot.uniq {n k r r' : Nat} (h : IsRoot n k r) (h' : IsRoot n k r') : r = r' := by
  have a := lt_of_pow_lt (Nat.lt_of_le_of_lt h.1 h'.2)
  have b := lt_of_pow_lt (Nat.lt_of_le_of_lt h'.1 h.2)
  omega
theorem root_ex (k : Nat) (hk : 0 < k) : ∀ n : Nat, ∃ r, IsRoot n k r
  | 0 => ⟨0, by rw [Nat.zero_pow hk]; exact Nat.le_refl _, by rw [Nat.zero_add, Nat.one_pow]; exact Nat.one_pos⟩
  | n + 1 => by
    obtain ⟨r, h1, h2⟩ := root_ex k hk n
    by_cases h : (r + 1) ^ k ≤ n + 1
    · refine ⟨r + 1, h, ?_⟩
      have := pow_lt_of_lt (Nat.lt_succ_self (r + 1)) hk
      have e : (r + 1).succ = r + 1 + 1 := rfl
      rw [e] at this
      omega
    · exact ⟨r, by omega, by omega⟩
/-- powers by the exponent's bits from above -/
theorem pow_bit (b e p : Nat) : b ^ (e / 2 ^ p) = if (e / 2 ^ p) % 2 = 1 then b ^ (e / 2 ^ (p + 1)) * b ^ (e / 2 ^ (p + 1)) * b else b ^ (e / 2 ^ (p + 1)) * b ^ (e / 2 ^ (p + 1)) := by
  have e1 : e / 2 ^ (p + 1) = e / 2 ^ p / 2 := by rw [Nat.pow_succ, Nat.div_div_eq_div_mul]
  have e2 := Nat.div_add_mod (e / 2 ^ p) 2
  have l := Nat.mod_lt (e / 2 ^ p) (show 0 < 2 by decide)
  rw [e1]
  generalize e / 2 ^ p = q at *
  split
  · rw [← Nat.pow_add, ← Nat.pow_succ]
    congr 1
    omega
  · rw [← Nat.pow_add]
    congr 1
    omega
theorem pow_bound {b a e q : Nat} (hb : b < 2 ^ a) (hq : q ≤ e) : b ^ q ≤ 2 ^ (a * e) := by
  rw [Nat.pow_mul]
  refine Nat.le_trans (Nat.pow_le_pow_left (Nat.le_of_lt hb) q) ?_
  exact Nat.pow_le_pow_right (Nat.pow_pos (by decide)) hq
end Pm

/-! Perfect powers, primes by trial. -/
namespace Pm
theorem euclid_pow : ∀ (s k m a b : Nat), k + m ≤ s → 0 < a → 0 < b → Nat.Coprime k m → a ^ k = b ^ m → ∃ c, a = c ^ m ∧ b = c ^ k
  | 0, k, m, a, b, hs, ha, hb, hc, e => by
    have hk : k = 0 := by omega
    have hm : m = 0 := by omega
    subst hk
    subst hm
    exact absurd hc (by decide)
  | s + 1, k, m, a, b, hs, ha, hb, hc, e => by
    rcases Nat.eq_zero_or_pos k with hk | hk
    · subst hk
      have hm : m = 1 := by
        have : Nat.gcd 0 m = 1 := hc
        rwa [Nat.gcd_zero_left] at this
      subst hm
      rw [Nat.pow_zero, Nat.pow_one] at e
      exact ⟨a, (Nat.pow_one a).symm, by rw [Nat.pow_zero]; exact e.symm⟩
    rcases Nat.eq_zero_or_pos m with hm | hm
    · subst hm
      have hk1 : k = 1 := by
        have : Nat.gcd k 0 = 1 := hc
        rwa [Nat.gcd_zero_right] at this
      subst hk1
      rw [Nat.pow_zero, Nat.pow_one] at e
      exact ⟨b, by rw [Nat.pow_zero]; exact e, (Nat.pow_one b).symm⟩
    rcases Nat.lt_trichotomy k m with h | h | h
    · have hdvd : b ^ k ∣ a ^ k := by
        rw [e]
        exact Nat.pow_dvd_pow b (Nat.le_of_lt h)
      obtain ⟨a', rfl⟩ := (Nat.pow_dvd_pow_iff (by omega)).mp hdvd
      have ha' : 0 < a' := Nat.pos_of_mul_pos_left ha
      have e2 : a' ^ k = b ^ (m - k) := by
        rw [Nat.mul_pow, show b ^ m = b ^ k * b ^ (m - k) by rw [← Nat.pow_add]; congr 1; omega] at e
        exact Nat.eq_of_mul_eq_mul_left (Nat.pow_pos hb) e
      have hc2 : Nat.Coprime k (m - k) := by
        show Nat.gcd k (m - k) = 1
        rw [Nat.gcd_sub_self_right (Nat.le_of_lt h)]
        exact hc
      obtain ⟨c, h1, h2⟩ := euclid_pow s k (m - k) a' b (by omega) ha' hb hc2 e2
      refine ⟨c, ?_, h2⟩
      rw [h1, h2, ← Nat.pow_add]
      congr 1
      omega
    · subst h
      have hk1 : k = 1 := by
        have : Nat.gcd k k = 1 := hc
        rwa [Nat.gcd_self] at this
      subst hk1
      rw [Nat.pow_one, Nat.pow_one] at e
      exact ⟨a, (Nat.pow_one a).symm, by rw [Nat.pow_one]; exact e.symm⟩
    · have hdvd : a ^ m ∣ b ^ m := by
        rw [← e]
        exact Nat.pow_dvd_pow a (Nat.le_of_lt h)
      obtain ⟨b', rfl⟩ := (Nat.pow_dvd_pow_iff (by omega)).mp hdvd
      have hb' : 0 < b' := Nat.pos_of_mul_pos_left hb
      have e2 : a ^ (k - m) = b' ^ m := by
        rw [Nat.mul_pow, show a ^ k = a ^ m * a ^ (k - m) by rw [← Nat.pow_add]; congr 1; omega] at e
        exact Nat.eq_of_mul_eq_mul_left (Nat.pow_pos ha) e
      have hc2 : Nat.Coprime (k - m) m := by
        show Nat.gcd (k - m) m = 1
        rw [Nat.gcd_sub_self_left (Nat.le_of_lt h)]
        exact hc
      obtain ⟨c, h1, h2⟩ := euclid_pow s (k - m) m a b' (by omega) ha hb' hc2 e2
      refine ⟨c, h1, ?_⟩
      rw [h1, h2, ← Nat.pow_add]
      congr 1
      omega
/-- no power of an exponent from 2 on -/
def NotPow (b : Nat) : Prop := ∀ c k, 2 ≤ k → c ^ k ≠ b
theorem ways_of_pow {b g x k : Nat} (hb : 2 ≤ b) (hn : NotPow b) (hg : 0 < g) (hk : 0 < k) (e : x ^ k = b ^ g) : k ∣ g ∧ x = b ^ (g / k) := by
  have hx : 0 < x := by
    rcases Nat.eq_zero_or_pos x with z | z
    · rw [z, Nat.zero_pow hk] at e
      have := Nat.pow_pos (n := g) (show 0 < b by omega)
      omega
    · exact z
  obtain ⟨g', k', hc, eg, ek⟩ := Nat.exists_coprime g k
  have hd : 0 < Nat.gcd g k := Nat.gcd_pos_of_pos_left _ hg
  generalize Nat.gcd g k = d at *
  have e2 : b ^ g' = x ^ k' := by
    rw [eg, ek, Nat.pow_mul, Nat.pow_mul] at e
    exact ((Nat.pow_left_inj (by omega)).mp e).symm
  obtain ⟨c, h1, h2⟩ := euclid_pow (g' + k') g' k' b x (Nat.le_refl _) (by omega) hx hc e2
  have hk' : 0 < k' := by
    rcases Nat.eq_zero_or_pos k' with z | z
    · rw [z, Nat.zero_mul] at ek
      omega
    · exact z
  have hk1 : k' = 1 := by
    rcases Nat.lt_or_ge 1 k' with z | z
    · exact absurd h1.symm (hn c k' z)
    · omega
  subst hk1
  rw [Nat.one_mul] at ek
  rw [Nat.pow_one] at h1
  subst ek
  refine ⟨⟨g', by rw [eg, Nat.mul_comm]⟩, ?_⟩
  rw [h2, ← h1, eg, Nat.mul_div_cancel _ hk]
theorem pow_of_dvd {b g k : Nat} (h : k ∣ g) : (b ^ (g / k)) ^ k = b ^ g := by
  rw [← Nat.pow_mul, Nat.div_mul_cancel h]
/-! primes -/
def Prime (p : Nat) : Prop := 2 ≤ p ∧ ∀ d, d ∣ p → d = 1 ∨ d = p
theorem prime_of_trial {n : Nat} (h2 : 2 ≤ n) (h : ∀ d, 2 ≤ d → d * d ≤ n → ¬ d ∣ n) : Prime n := by
  refine ⟨h2, fun d hd => ?_⟩
  obtain ⟨e, rfl⟩ := hd
  have hd0 : 0 < d := Nat.pos_of_mul_pos_right (show 0 < d * e by omega)
  have he0 : 0 < e := Nat.pos_of_mul_pos_left (show 0 < d * e by omega)
  rcases Nat.lt_or_ge 1 d with z | z
  · rcases Nat.lt_or_ge 1 e with y | y
    · exfalso
      rcases Nat.le_total d e with w | w
      · exact h d z (Nat.mul_le_mul_left d w) ⟨e, rfl⟩
      · exact h e y (Nat.mul_le_mul_right e w) ⟨d, Nat.mul_comm d e⟩
    · have : e = 1 := by omega
      subst this
      exact .inr (by rw [Nat.mul_one])
  · exact .inl (by omega)
theorem not_prime_of {n d : Nat} (h2 : 2 ≤ d) (h : d * d ≤ n) (hd : d ∣ n) : ¬ Prime n := fun p => by
  rcases p.2 d hd with z | z
  · omega
  · subst z
    have : d * 2 ≤ d * d := Nat.mul_le_mul_left d h2
    omega
theorem prime_factor : ∀ n : Nat, 2 ≤ n → ∃ p, Prime p ∧ p ∣ n
  | n, h2 => by
    by_cases hp : Prime n
    · exact ⟨n, hp, Nat.dvd_refl n⟩
    · have : ∃ d, 2 ≤ d ∧ d * d ≤ n ∧ d ∣ n := by
        refine Classical.byContradiction fun hno => hp (prime_of_trial h2 fun d a b c => hno ⟨d, a, b, c⟩)
      obtain ⟨d, a, b, c⟩ := this
      have hlt : d < n := by
        have : d * 2 ≤ d * d := Nat.mul_le_mul_left d a
        omega
      obtain ⟨p, p1, p2⟩ := prime_factor d a
      exact ⟨p, p1, Nat.dvd_trans p2 c⟩
termination_by n => n
def fact : Nat → Nat
  | 0 => 1
  | n + 1 => fact n * (n + 1)
theorem fact_pos : ∀ n, 0 < fact n
  | 0 => Nat.one_pos
  | n + 1 => Nat.mul_pos (fact_pos n) (Nat.succ_pos n)
theorem dvd_fact : ∀ n d, 0 < d → d ≤ n → d ∣ fact n
  | 0, d, h, h2 => by omega
  | n + 1, d, h, h2 => by
    by_cases e : d = n + 1
    · subst e
      exact ⟨fact n, Nat.mul_comm _ _⟩
    · exact Nat.dvd_trans (dvd_fact n d h (by omega)) ⟨n + 1, rfl⟩
theorem prime_above (n : Nat) : ∃ p, n < p ∧ Prime p := by
  obtain ⟨p, hp, hd⟩ := prime_factor (fact n + 1) (by have := fact_pos n; omega)
  refine ⟨p, ?_, hp⟩
  refine Nat.lt_of_not_le fun h => ?_
  have h1 := dvd_fact n p (by have := hp.1; omega) h
  have h2 : p ∣ 1 := by
    have := Nat.dvd_sub hd h1
    rwa [Nat.add_sub_cancel_left] at this
  have := Nat.le_of_dvd Nat.one_pos h2
  have := hp.1
  omega
theorem notPow_of_primes {b : Nat} (h : ∀ q, Prime q → ∀ c, c ^ q ≠ b) : NotPow b := fun c k hk e => by
  obtain ⟨p, hp, j, rfl⟩ := prime_factor k hk
  exact h p hp (c ^ j) (by rw [← Nat.pow_mul, Nat.mul_comm]; exact e)
theorem notPow_one_lt {b k c : Nat} (hb : 2 ≤ b) (hk : b < 2 ^ k) (hk0 : 0 < k) (e : c ^ k = b) : False := by
  rcases Nat.lt_or_ge c 2 with h | h
  · have : c = 0 ∨ c = 1 := by omega
    rcases this with rfl | rfl
    · rw [Nat.zero_pow hk0] at e
      omega
    · rw [Nat.one_pow] at e
      omega
  · have := Nat.pow_le_pow_left h k
    omega
end Pm

namespace Pw
open PySem PySem.Spec PyProof.Rows L2

/-! ### a def of the top that stands, and its promise -/
structure Def (P : Program) (w : World) (K : PySem.W.Frag) (mg : Str → Option Value) (base : Heap) (k : Nat) (x : Str) (ps : List Str) (sp : Sp) : Prop where
  ex : ∃ (f : Addr) (fd : FuncData), FnOk P w K mg base CX0 k f fd ps sp ∧ mg x = some (.ref f) ∧ PySem.W.keepIn K (.ref f) = true ∧ Binds K fd ps []
structure Pl (K : PySem.W.Frag) (mg : Str → Option Value) (x : Str) (st : Stmt) (ps : List Str) : Prop where
  ex : ∃ (f : Addr) (fd : FuncData), Fun K x x st f fd ∧ mg x = some (.ref f) ∧ Binds K fd ps []
section
variable {P : Program} {w : World} {K : PySem.W.Frag} {mg : Str → Option Value} {base : Heap}
theorem Pl.ok {x : Str} {st : Stmt} {N ps : List Str} {k : Nat} {sp : Sp} (F : Pl K mg x st ps) (S : FnScope N ps (defScope st)) (len : ∀ vs H Q E, sp vs H Q E → vs.length = ps.length)
    (hbody : ∀ (f : Addr) (cdv : Value) (A : Around) (outer : List Env) (s : Shared) (H : Hp) (vs : List V) (Q : VK) (E : XK), Room k (A.deeper (envOfC x (defScope st) s.heap.objs.size f cdv)) → sp vs H Q E →
      ∃ t, PSs (cxOf CX0 P w K mg base N x (defScope st) f cdv A outer s H E).nox (defBody st) t ∧ t { nx := fun _ H' => Q .non H', rt := Q } (start N vs) H) : Def P w K mg base (k + 1) x ps sp := by
  obtain ⟨f, fd, F, m, b⟩ := F.ex
  exact ⟨f, fd, F.ok S len (hbody f), m, F.kp, b⟩
end
section
variable {X : Cx} {k j : Nat} {x : Str} {ps : List Str} {sp : Sp}
theorem pe_def {e : Expr} {es : List Expr} {t : TA} {p pos : Pos} (D : Def X.prog X.w X.K X.mg X.base k x ps sp) (hr : Room k X.A) (hg : Gl X x) (ha : PA X (e :: es) t) (hdb : (x == ("__debug__" : Str)) = false := by decide)
    (he : starEach (e :: es) X.env = (false, eval e X.env) :: starEach es X.env := by rfl) (hpl : (backTo pos (starEach es X.env)).any (·.1) = false := by rfl) : PE X (.Call (.Name x p) (e :: es) [] pos) (tCall sp [] E0 t) := by
  obtain ⟨f, fd, F, m, kp, b⟩ := D.ex
  exact pe_call F hr hg m kp b .nil pass0 ha hdb he hpl
end
end Pw

namespace Pw
open PySem PySem.Spec PyProof.Rows L2
section
variable {X : Cx} {k j : Nat} {x : Str} {ps : List Str} {sp : Sp}
theorem pe_df {e : Expr} {es : List Expr} {t : TA} {p pos : Pos} (D : Def X.prog X.w X.K X.mg X.base k x ps sp) (hr : Room j X.A) (hg : Gl X x) (ha : PA X (e :: es) t) (hk : k ≤ j := by decide) (hdb : (x == ("__debug__" : Str)) = false := by decide)
    (he : starEach (e :: es) X.env = (false, eval e X.env) :: starEach es X.env := by rfl) (hpl : (backTo pos (starEach es X.env)).any (·.1) = false := by rfl) : PE X (.Call (.Name x p) (e :: es) [] pos) (tCall sp [] E0 t) :=
  pe_def D (hr.mono hk) hg ha hdb he hpl
end
/-! ### rules by name -/
def rOdd : R2 := fun x y H Q => ∃ n : Nat, x = .int (n : Int) ∧ y = .int 1 ∧ Q (.int ((n % 2 : Nat) : Int)) H
theorem op_oddN {X : Cx} : OpR X (binaryOp .BitAnd) rOdd := op_odd
def rLenS (K : PySem.W.Frag) : List V → Hp → VK → Prop := fun xs H Q => ∃ p ys, xs = [.ref p] ∧ (SqL K H p ys ∨ SqT K H p ys) ∧ Q (.int ys.length) H
theorem cr_lenS {X : Cx} : CallR X (.builtin "len") (rLenS X.K) := call_len_seq
def rLenT : List V → Hp → VK → Prop := fun xs H Q => ∃ z, xs = [.str z] ∧ z.length ≤ sizeLine ∧ Q (.int z.length) H
theorem cr_lenT {X : Cx} : CallR X (.builtin "len") rLenT := call_len_str
def rMin2 : List V → Hp → VK → Prop := fun xs H Q => ∃ i j : Int, xs = [.int i, .int j] ∧ Q (.int (if j < i then j else i)) H
def rMax2 : List V → Hp → VK → Prop := fun xs H Q => ∃ i j : Int, xs = [.int i, .int j] ∧ Q (.int (if j > i then j else i)) H
theorem cr_min2 {X : Cx} (hc : X.calm = true) : CallR X (.builtin "min") rMin2 := call_min2 hc
theorem cr_max2 {X : Cx} (hc : X.calm = true) : CallR X (.builtin "max") rMax2 := call_max2 hc
def tTruth (K : PySem.W.Frag) (ta : TE) : TT := fun σ H Q => ta σ H fun x H' => ∃ k, TruV K x H' k ∧ Q k H'
theorem pt_tru {X : Cx} {K : PySem.W.Frag} {a : Expr} {ta : TE} (ha : PE X a ta) (he : ∀ whole, isTrue a X.env whole = (do let v ← whole; standAt a.pos; holding [v] (truthy v))) (hK : X.K = K := by rfl) : PT X a (tTruth K ta) := by
  subst hK
  exact pt_truth ha he

/-! ### isqrt -/
def rIsqrt : List V → Hp → VK → Prop := fun vs H Q => ∃ n : Nat, vs = [.int (n : Int)] ∧ n < 2 ^ 13000 ∧ (∀ r : Nat, r * r ≤ n → n < (r + 1) * (r + 1) → Q (.int (r : Int)) H)
theorem cr_isqrt {X : Cx} : CallR X (.builtin "math.isqrt") rIsqrt := by
  intro pins s σ H vs us Q I r h
  obtain ⟨n, rfl, hn, q⟩ := h
  have hv : ∃ t, us = [Value.int (n : Int) t] := by
    cases r with
    | cons r1 r2 =>
      cases r2
      obtain ⟨t, rfl⟩ := r1
      exact ⟨t, rfl⟩
  obtain ⟨t, rfl⟩ := hv
  have hl : (n : Int).toNat.log2 < 13000 := by
    rw [Int.toNat_natCast]
    exact PySem.Flt.log2_lt_of (by decide) hn
  have sp := PySem.Float64.isqrt_spec n
  have sp' := q _ sp.1 sp.2
  have e : (Float64.isqrt ((n : Int)).toNat : Nat) = Float64.isqrt n := by rw [Int.toNat_natCast]
  refine call_function_meets PySem.W.MGF.kind_isqrt PySem.W.MGF.plain_isqrt PySem.W.MGF.entry_isqrt (PySem.W.MGF.args_isqrt _) (PySem.W.mg_run_isqrt (n : Int) t (by omega) (by omega) (by omega)).meets ?_
  refine ⟨.int ((Float64.isqrt (n : Int).toNat : Nat) : Int), H, I.tok _, ⟨_, rfl⟩, ?_⟩
  rw [e]
  exact sp'

/-- a new tuple, list; a new list whose size is known -/
def NewT (Q : VK) (xs : List V) (H : Hp) : Prop := xs.length ≤ sizeLine ∧ ∀ p, H p = none → Q (.ref p) (upd H p (.tup xs))
def NewL (Q : VK) (xs : List V) (H : Hp) : Prop := xs.length ≤ sizeLine ∧ ∀ p, H p = none → Q (.ref p) (upd H p (.lst xs))
def NewC (Q : VK) (xs : List V) (H : Hp) : Prop := ∀ p, H p = none → Q (.ref p) (upd H p (.lst xs))
theorem same_new {H : Hp} {p : Addr} {o : HO} (h : H p = none) : Same H (upd H p o) := fun b x e => by rw [upd_ne (ne_of_none e h)]; exact e
theorem newT {Q : VK} {xs : List V} {H : Hp} (hl : xs.length ≤ 1000) (q : ∀ p H', H p = none → H' p = some (.tup xs) → Same H H' → Q (.ref p) H') : NewT Q xs H := ⟨Nat.le_of_lt (small1000 hl), fun p hp => q p _ hp upd_same (same_new hp)⟩
theorem newL {Q : VK} {xs : List V} {H : Hp} (hl : xs.length ≤ 1000) (q : ∀ p H', H p = none → H' p = some (.lst xs) → Same H H' → Q (.ref p) H') : NewL Q xs H := ⟨Nat.le_of_lt (small1000 hl), fun p hp => q p _ hp upd_same (same_new hp)⟩
theorem newC {Q : VK} {xs : List V} {H : Hp} (q : ∀ p H', H p = none → H' p = some (.lst xs) → Same H H' → Q (.ref p) H') : NewC Q xs H := fun p hp => q p _ hp upd_same (same_new hp)
/-! ### the reading, step by step -/
section
variable {K : PySem.W.Frag} {σ : L2.St} {H : Hp} {Q : VK} {QT : Bool → Hp → Prop} {QA : List V → Hp → Prop} {D : Ends} {t u : TS} {tt tu : TT} {ta tb te tc : TE} {tr : TA} {i j : Int} {v x y : V} {n m : Nat}
theorem r_seq (h : t { D with nx := u D } σ H) : tSeq t u D σ H := h
theorem r_next (h : D.nx σ H) : tNext D σ H := h
theorem r_cont (h : D.ct σ H) : tCont D σ H := h
theorem r_break (h : D.bk σ H) : tBreak D σ H := h
theorem r_set (h : te σ H fun x H1 => D.nx (σ.set n (some x)) H1) : tAsg te (gName n) D σ H := h
theorem r_asg {g : TG} (h : te σ H fun x H1 => g x σ H1 D.nx) : tAsg te g D σ H := h
theorem r_ret (h : te σ H D.rt) : tRet te D σ H := h
theorem r_retN (h : D.rt .non H) : tRetN D σ H := h
theorem r_drop (h : te σ H fun _ H1 => D.nx σ H1) : tDrop te D σ H := h
theorem r_if (h : tt σ H fun b H1 => if b = true then t D σ H1 else u D σ H1) : tIfS tt t u D σ H := h
theorem r_var (h : σ[n]? = some (some v)) (q : Q v H) : tVar n σ H Q := ⟨v, h, q⟩
theorem r_c (q : Q v H) : tC v σ H Q := q
theorem r_op {r : R2} (h : ta σ H fun x H1 => tb σ H1 fun y H2 => r x y H2 Q) : tOp r ta tb σ H Q := h
theorem r_un {r : V → Hp → VK → Prop} (h : ta σ H fun x H1 => r x H1 Q) : tUn r ta σ H Q := h
theorem r_I0 {g : Int → Int → V} (q : Q (g i j) H) : rI0 g (.int i) (.int j) H Q := ⟨i, j, rfl, rfl, q⟩
theorem r_I {C : Int → Int → Prop} {g : Int → Int → V} (c : C i j) (q : Q (g i j) H) : rI C g (.int i) (.int j) H Q := ⟨i, j, rfl, rfl, c, q⟩
theorem r_U {g : Int → V} (q : Q (g i) H) : rU g (.int i) H Q := ⟨i, rfl, q⟩
theorem r_eqI (q : Q (.bl (decide (V.int i = V.int j))) H) : rEq (.int i) (.int j) H Q := ⟨rfl, q⟩
theorem r_neI (q : Q (.bl (!decide (V.int i = V.int j))) H) : rNe (.int i) (.int j) H Q := ⟨rfl, q⟩
theorem r_eqS (h : scal x y = true) (q : Q (.bl (decide (x = y))) H) : rEq x y H Q := ⟨h, q⟩
theorem r_neS (h : scal x y = true) (q : Q (.bl (!decide (x = y))) H) : rNe x y H Q := ⟨h, q⟩
theorem r_odd (h : i = (n : Int)) (q : Q (.int ((n % 2 : Nat) : Int)) H) : rOdd (.int i) (.int 1) H Q := ⟨n, by rw [h], rfl, q⟩
theorem r_test (h : te σ H fun x H' => ∃ k, x = .bl k ∧ QT k H') : tTest te σ H QT := h
theorem r_B (h : te σ H fun x H' => ∃ k, x = .bl k ∧ QT k H') : tB te σ H QT := h
theorem r_exI {R : Int → Prop} (h : R i) : ∃ z, V.int i = .int z ∧ R z := ⟨i, rfl, h⟩
theorem r_exB {R : Bool → Prop} {b : Bool} (h : R b) : ∃ z, V.bl b = .bl z ∧ R z := ⟨b, rfl, h⟩
theorem r_truth (h : te σ H fun x H' => ∃ k, TruV K x H' k ∧ QT k H') : tTruth K te σ H QT := h
theorem r_truI {R : Bool → Prop} (h : R (i != 0)) : ∃ k, TruV K (.int i) H k ∧ R k := ⟨_, rfl, h⟩
theorem r_truB {R : Bool → Prop} {b : Bool} (h : R b) : ∃ k, TruV K (.bl b) H k ∧ R k := ⟨_, rfl, h⟩
theorem r_and (h : tt σ H fun c H1 => if c = true then tu σ H1 QT else QT false H1) : tAnd tt tu σ H QT := h
theorem r_or (h : tt σ H fun c H1 => if c = true then QT true H1 else tu σ H1 QT) : tOr tt tu σ H QT := h
theorem r_not (h : tt σ H fun c H1 => QT (!c) H1) : tNot tt σ H QT := h
theorem r_andV (h : ta σ H fun x H1 => ∃ c, x = .bl c ∧ if c = true then tb σ H1 Q else Q (.bl false) H1) : tAndV ta tb σ H Q := h
theorem r_orV (h : ta σ H fun x H1 => ∃ c, x = .bl c ∧ if c = true then Q (.bl true) H1 else tb σ H1 Q) : tOrV ta tb σ H Q := h
theorem r_notV (h : ta σ H fun x H1 => ∃ c, x = .bl c ∧ Q (.bl (!c)) H1) : tNotV ta σ H Q := h
theorem r_ifE (h : tt σ H fun c H1 => if c = true then ta σ H1 Q else tb σ H1 Q) : tIf tt ta tb σ H Q := h
theorem r_nil (q : QA [] H) : tNil σ H QA := q
theorem r_cons (h : ta σ H fun x H1 => tr σ H1 fun xs H2 => QA (x :: xs) H2) : tCons ta tr σ H QA := h
theorem r_CB {r : List V → Hp → VK → Prop} (h : tr σ H fun vs H1 => r vs H1 Q) : tCB r tr σ H Q := h
theorem r_call {sp : Sp} {E : XK} (h : tr σ H fun vs H1 => sp vs H1 Q E) : tCall sp [] E tr σ H Q := by
  have e : (fun vs H1 => sp (vs ++ []) H1 Q E) = fun vs H1 => sp vs H1 Q E := by
    funext vs H1
    rw [List.append_nil]
  show tr σ H fun vs H1 => sp (vs ++ []) H1 Q E
  rw [e]
  exact h
theorem r_tup (h : tr σ H fun xs H1 => NewT Q xs H1) : tTup tr σ H Q := h
theorem r_lst (h : tr σ H fun xs H1 => NewL Q xs H1) : tLst tr σ H Q := h
theorem r_min2 (q : Q (.int (if j < i then j else i)) H) : rMin2 [.int i, .int j] H Q := ⟨i, j, rfl, q⟩
theorem r_max2 (q : Q (.int (if j > i then j else i)) H) : rMax2 [.int i, .int j] H Q := ⟨i, j, rfl, q⟩
theorem r_isqrt {a : Nat} (h : a < 2 ^ 13000) (q : ∀ r : Nat, r * r ≤ a → a < (r + 1) * (r + 1) → Q (.int (r : Int)) H) : rIsqrt [.int (a : Int)] H Q := ⟨a, rfl, h, q⟩
theorem r_bits (h : te σ H fun x H1 => ∃ z, x = .int z ∧ Q (.int (Builtin.Int.intBits z : Nat)) H1) : tBits te σ H Q := h
theorem r_ixL {p : Addr} {xs : List V} (h : SqL K H p xs) (ha : atI xs i = some v) (q : Q v H) : rIxL K (.ref p) (.int i) H Q := ⟨p, xs, i, v, rfl, rfl, h, ha, q⟩
theorem r_ixT {p : Addr} {xs : List V} (h : SqT K H p xs) (ha : atI xs i = some v) (q : Q v H) : rIxT K (.ref p) (.int i) H Q := ⟨p, xs, i, v, rfl, rfl, h, ha, q⟩
theorem r_lenL {p : Addr} {xs : List V} (h : SqL K H p xs) (q : Q (.int xs.length) H) : rLenS K [.ref p] H Q := ⟨p, xs, rfl, .inl h, q⟩
theorem r_lenT {p : Addr} {xs : List V} (h : SqT K H p xs) (q : Q (.int xs.length) H) : rLenS K [.ref p] H Q := ⟨p, xs, rfl, .inr h, q⟩
theorem r_lenS {z : Str} (h : z.length ≤ sizeLine) (q : Q (.int z.length) H) : rLenT [.str z] H Q := ⟨z, rfl, h, q⟩
theorem r_sl {r : V → Option Int → Option Int → Hp → VK → Prop} {tl th : TO} (h : te σ H fun x H1 => tl σ H1 fun l H2 => th σ H2 fun u H3 => r x l u H3 Q) : tSl r te tl th σ H Q := h
theorem r_noPart {QO : Option Int → Hp → Prop} (q : QO none H) : tNoPart σ H QO := q
theorem r_part {QO : Option Int → Hp → Prop} (h : te σ H fun x H1 => ∃ z, x = .int z ∧ QO (some z) H1) : tPart te σ H QO := h
theorem r_slL {p : Addr} {xs : List V} {lo hi : Option Int} (h : SqL K H p xs) (q : NewC Q (cutV xs lo hi) H) : rSlL K (.ref p) lo hi H Q := ⟨p, xs, rfl, h, q⟩
theorem r_gName {R : L2.St → Hp → Prop} (q : R (σ.set n (some v)) H) : gName n v σ H R := q
theorem r_gSub {R : L2.St → Hp → Prop} {s : TSet} (h : ta σ H fun o H1 => tb σ H1 fun i H2 => s o i v H2 fun H3 => R σ H3) : gSub ta tb s v σ H R := h
theorem r_setL {p : Addr} {xs : List V} {jx : Nat} {R : Hp → Prop} (h : H p = some (.lst xs)) (hj : ixN xs.length i = some jx) (q : R (upd H p (.lst (xs.set jx v)))) : rSetL (.ref p) (.int i) v H R := ⟨p, xs, i, jx, rfl, rfl, h, hj, q⟩
theorem r_ite {c A B : Prop} [Decidable c] (h1 : c → A) (h2 : ¬ c → B) : if decide c = true then A else B := by
  by_cases h : c
  · rw [if_pos (decide_eq_true h)]
    exact h1 h
  · rw [if_neg (by rw [decide_eq_false h]; decide)]
    exact h2 h
theorem iteNT {A B : Prop} (h : B) : if (!true) = true then A else B := h
theorem iteNF {A B : Prop} (h : A) : if (!false) = true then A else B := h
theorem r_iteI {A B : Prop} (h1 : i = j → A) (h2 : i ≠ j → B) : if decide (V.int i = V.int j) = true then A else B := r_ite (fun e => h1 (V.int.inj e)) (fun e => h2 fun z => e (by rw [z]))
theorem r_iteNI {A B : Prop} (h1 : i ≠ j → A) (h2 : i = j → B) : if (!decide (V.int i = V.int j)) = true then A else B := by
  by_cases h : i = j
  · rw [h, decide_eq_true rfl]
    exact h2 h
  · rw [decide_eq_false fun e => h (V.int.inj e)]
    exact h1 h
theorem r_iteN {c A B : Prop} [Decidable c] (h1 : ¬ c → A) (h2 : c → B) : if (!decide c) = true then A else B := by
  by_cases h : c
  · rw [decide_eq_true h]
    exact h2 h
  · rw [decide_eq_false h]
    exact h1 h
theorem r_bne {A B : Prop} (h1 : i ≠ 0 → A) (h2 : i = 0 → B) : if (i != 0) = true then A else B := by
  by_cases h : i = 0
  · subst h
    exact h2 rfl
  · rw [if_pos (by simp [h])]
    exact h1 h
theorem r_for {wi : TI} {g : TG} {tb : TS} (h : wi σ H fun J H1 => ∃ W : Nat → Nat → L2.St → Hp → Prop, (∃ m, W 0 m σ H1) ∧ ∀ i m σ H, W i m σ H →
  (J.stop i H ∧ D.nx σ H) ∨ (J.go i H ∧ ∃ N : L2.St → Hp → Prop, (∀ σ' H', N σ' H' → ∃ m', m' < m ∧ W (i + 1) m' σ' H') ∧ ∀ x H', J.yld i H x H' → g x σ H' fun σ2 H2 => tb { D with nx := N, ct := N, bk := D.nx } σ2 H2)) : tFor wi g tb D σ H := h
theorem r_rng1 {R : It → Hp → Prop} (h : tr σ H fun vs H1 => ∃ j : Int, vs = [.int j] ∧ -(2 ^ 62) ≤ j ∧ j < 2 ^ 62 ∧ R (Itr 0 j.toNat) H1) : iRng1 tr σ H R := h
theorem r_ex1 {R : Int → Prop} (h : R i) : ∃ z, [V.int i] = [.int z] ∧ R z := ⟨i, rfl, h⟩
theorem r_iList {R : It → Hp → Prop} (h : te σ H fun x H1 => ∃ a, x = .ref a ∧ (∃ xs, SqL K H1 a xs) ∧ R (Itl K a) H1) : iList K te σ H R := h
theorem r_iTup {R : It → Hp → Prop} (h : te σ H fun x H1 => ∃ a, x = .ref a ∧ (∃ xs, SqT K H1 a xs) ∧ R (Itt K a) H1) : iTup K te σ H R := h
theorem r_exL {p : Addr} {xs : List V} {R : Addr → Prop} (h : SqL K H p xs) (q : R p) : ∃ a, V.ref p = .ref a ∧ (∃ xs, SqL K H a xs) ∧ R a := ⟨p, rfl, ⟨xs, h⟩, q⟩
theorem r_exT {p : Addr} {xs : List V} {R : Addr → Prop} (h : SqT K H p xs) (q : R p) : ∃ a, V.ref p = .ref a ∧ (∃ xs, SqT K H a xs) ∧ R a := ⟨p, rfl, ⟨xs, h⟩, q⟩
theorem r_revR {tg : L2.St → Hp → (Int → Int → Hp → Prop) → Prop} {R : It → Hp → Prop} (h : tg σ H fun a b H1 => -(2 ^ 62) ≤ a ∧ a < 2 ^ 62 ∧ -(2 ^ 62) ≤ b ∧ b < 2 ^ 62 ∧ R (Itc (a + (((b - a).toNat : Nat) : Int) - 1) (-1) (b - a).toNat) H1) : iRevR tg σ H R := h
theorem r_tRg1 {R : Int → Int → Hp → Prop} (h : te σ H fun x H1 => ∃ z, x = .int z ∧ R 0 z H1) : tRg1 te σ H R := h
theorem r_BM {T : String} {r : V → List V → Hp → VK → Prop} (h : te σ H fun x H1 => tyV K T x H1 ∧ tr σ H1 fun xs H2 => r x xs H2 Q) : tBM K T r te tr σ H Q := h
theorem r_append {p : Addr} {xs : List V} (h : H p = some (.lst xs)) (hl : xs.length < sizeLine) (q : Q .non (upd H p (.lst (xs ++ [v])))) : rAppend (.ref p) [v] H Q := ⟨p, xs, v, rfl, rfl, h, hl, q⟩
/-- while, by a word and a measure; the test read along -/
theorem r_while (W : L2.St → Hp → Prop) (μ : L2.St → Hp → Nat) (h0 : W σ H)
    (hs : ∀ σ H, W σ H → ∀ (N : L2.St → Hp → Prop), (∀ σ' H', W σ' H' → μ σ' H' < μ σ H → N σ' H') → tt σ H fun b H1 => if b = true then t { D with nx := N, ct := N, bk := D.nx } σ H1 else D.nx σ H1)
    (mono : ∀ σ H R R', (∀ b H1, R b H1 → R' b H1) → tt σ H R → tt σ H R') : tWhile tt t D σ H := by
  refine while_by W μ h0 (fun σ H w => ?_) mono
  exact hs σ H w (fun σ' H' => W σ' H' ∧ μ σ' H' < μ σ H) fun σ' H' a b => ⟨a, b⟩
end
end Pw

namespace Pw
open PySem PySem.Spec PyProof.Rows L2
/-- the built-in names that the text leaves alone -/
structure Bl (mg : Str → Option Value) : Prop where
  len : mg "len" = none
  range : mg "range" = none
  sum : mg "sum" = none
  min : mg "min" = none
  max : mg "max" = none
  reversed : mg "reversed" = none
  isinstance : mg "isinstance" = none
  int : mg "int" = none
  bool : mg "bool" = none
  tuple : mg "tuple" = none
  list : mg "list" = none
  str : mg "str" = none
  sorted : mg "sorted" = none
  divmod : mg "divmod" = none
  enumerate : mg "enumerate" = none
  abs : mg "abs" = none
  zip : mg "zip" = none
  set : mg "set" = none
  dict : mg "dict" = none
/-! ### heaps -/
/-- all but the deck's row stays -/
def Keep (d : Addr) (H H' : Hp) : Prop := ∀ b o, b ≠ d → H b = some o → H' b = some o
theorem Keep.refl {d : Addr} {H : Hp} : Keep d H H := fun _ _ _ h => h
theorem Keep.trans {d : Addr} {H H1 H2 : Hp} (a : Keep d H H1) (b : Keep d H1 H2) : Keep d H H2 := fun c o n h => b c o n (a c o n h)
theorem Keep.upd {d : Addr} {H : Hp} {o : HO} : Keep d H (upd H d o) := fun b _ n h => by rw [upd_ne n]; exact h
theorem Keep.new {d p : Addr} {H : Hp} {o : HO} (hp : H p = none) : Keep d H (L2.upd H p o) := fun b _ _ h => by rw [upd_ne (ne_of_none h hp)]; exact h
theorem Keep.of {d : Addr} {H H' : Hp} (s : Same H H') : Keep d H H' := fun b o _ h => s b o h
/-- a deck: its cells, how many are begun, what is left of one, how many were mixed, the sum -/
structure DeckAt (H : Hp) (d c : Addr) (n : Nat) : Prop where
  ex : ∃ (cells : List Int) (b l m t : Int), H d = some (.lst [.ref c, .int b, .int l, .int m, .int t]) ∧ H c = some (.lst (cells.map V.int)) ∧ c ≠ d ∧
    0 ≤ b ∧ b ≤ cells.length ∧ cells.length ≤ 63 ∧ 0 ≤ l ∧ 0 ≤ m ∧ m ≤ n
theorem DeckAt.mono {H : Hp} {d c : Addr} {n n' : Nat} (D : DeckAt H d c n) (h : n ≤ n') : DeckAt H d c n' := by
  obtain ⟨cells, b, l, m, t, h1, h2, h3, h4, h5, h6, h7, h8, h9⟩ := D.ex
  exact ⟨cells, b, l, m, t, h1, h2, h3, h4, h5, h6, h7, h8, by omega⟩
theorem DeckAt.same {H H' : Hp} {d c : Addr} {n : Nat} (D : DeckAt H d c n) (s : Same H H') : DeckAt H' d c n := by
  obtain ⟨cells, b, l, m, t, h1, h2, h3⟩ := D.ex
  exact ⟨cells, b, l, m, t, s _ _ h1, s _ _ h2, h3⟩
theorem natAbs_lt {i : Int} {n : Nat} (h0 : 0 ≤ i) (h : i < (n : Int)) : i.natAbs < n := by omega
theorem mulx_of {i j : Int} (a b : Nat) (ha : i.natAbs < 2 ^ a) (hb : j.natAbs < 2 ^ b) (h : a + b ≤ 134217728) : CMulX i j := mulx_ok ha hb h
/-! ### promises of the law's own helpers -/
def spMix : Sp := fun vs H Q _ => ∃ cell k : Int, vs = [.int cell, .int k] ∧ 0 ≤ k ∧ k ≤ 2 ^ 60 ∧ ∀ r : Int, 0 ≤ r → Q (.int r) H
def spNext : Sp := fun vs H Q _ => ∃ (d c : Addr) (many : Int) (n : Nat), vs = [.ref d, .int many] ∧ 0 < many ∧ many.natAbs < 2 ^ 8000 ∧ DeckAt H d c n ∧ n ≤ 2 ^ 50 ∧
  ∀ (r : Int) (H' : Hp), 0 ≤ r → r < many → Keep d H H' → DeckAt H' d c (n + 1) → Q (.int r) H'
def spDeck (K : PySem.W.Frag) : Sp := fun vs H Q _ => ∃ (a : Addr) (ns : List Int), vs = [.ref a] ∧ SqL K H a (ns.map V.int) ∧ ∀ (d c : Addr) (H' : Hp), H d = none → Same H H' → DeckAt H' d c 0 → Q (.ref d) H'
def spGreat : Sp := fun vs H Q _ => ∃ (d c : Addr) (most : Int) (n : Nat), vs = [.ref d, .int most] ∧ 0 < most ∧ DeckAt H d c n ∧ n ≤ 2 ^ 49 ∧
  ∀ (r : Int) (H' : Hp), 0 ≤ r → r < most → Keep d H H' → DeckAt H' d c (n + 8) → Q (.int r) H'
def spAPower : Sp := fun vs H Q _ => ∃ (d c : Addr) (most : Int) (n : Nat), vs = [.ref d, .int most] ∧ 0 < most ∧ most < 2 ^ 200 ∧ DeckAt H d c n ∧ n ≤ 2 ^ 48 ∧
  ∀ (r : Int) (H' : Hp), 0 < r → r ≤ most → Keep d H H' → DeckAt H' d c (n + 16) → Q (.int r) H'
def spNumber : Sp := fun vs H Q _ => ∃ (d c : Addr) (most : Int) (n : Nat), vs = [.ref d, .int most] ∧ 0 < most ∧ most < 2 ^ 199 ∧ DeckAt H d c n ∧ n ≤ 2 ^ 47 ∧
  ∀ (r : Int) (H' : Hp), 0 ≤ r → r ≤ most → Keep d H H' → DeckAt H' d c (n + 50) → Q (.int r) H'
end Pw
namespace Pw
open PySem PySem.Spec PyProof.Rows L2
theorem at_st {t : TS} {D : Ends} {H : Hp} {σ' : L2.St} (σ : L2.St) (e : σ' = σ) (h : t D σ H) : t D σ' H := by subst e; exact h
end Pw
namespace Pw
open PySem PySem.Spec PyProof.Rows L2
theorem cxK2 {CX : CXT} {P : Program} {w : World} {K : PySem.W.Frag} {mg : Str → Option Value} {base : Heap} {N : List Str} {qual : Str} {scope : Scope} {f : Addr} {cd : Value} {A : Around} {outer : List Env} {s : Shared} {H : Hp} {E : XK} :
    (cxOf CX P w K mg base N qual scope f cd A outer s H E).K = K := rfl
theorem cxK {CX : CXT} {P : Program} {w : World} {K : PySem.W.Frag} {mg : Str → Option Value} {base : Heap} {N : List Str} {qual : Str} {scope : Scope} {f : Addr} {cd : Value} {A : Around} {outer : List Env} {s : Shared} {H : Hp} {E : XK} :
    (cxOf CX P w K mg base N qual scope f cd A outer s H E).nox.K = K := rfl
section
variable {K : PySem.W.Frag} {H : Hp} {Q : VK} {i : Int} {v : V}
theorem r_setLx {p : Addr} {xs : List V} (ys : List V) {jx : Nat} {R : Hp → Prop} (h : H p = some (.lst xs)) (hj : ixN xs.length i = some jx) (e : xs.set jx v = ys) (q : ∀ H', H' p = some (.lst ys) → Keep p H H' → R H') : rSetL (.ref p) (.int i) v H R :=
  r_setL h hj (q _ (by rw [e]; exact upd_same) Keep.upd)
theorem r_sum {a : Addr} {ns : List Int} (h : SqL K H a (ns.map V.int)) (q : Q (.int ns.sum) H) : rSum K [.ref a] H Q := ⟨a, ns, rfl, h, q⟩
theorem cut_to (ns : List Int) (k : Nat) : cutV (ns.map V.int) none (some (k : Int)) = (ns.take k).map V.int := by
  unfold cutV
  rw [HT.sIx_none, HT.sIx_nat]
  rw [List.length_map, List.drop_zero, Nat.sub_zero, ← List.map_take]
  congr 1
  rcases Nat.le_total k ns.length with h | h
  · rw [Nat.min_eq_left h]
  · rw [Nat.min_eq_right h, List.take_of_length_le (Nat.le_refl _), List.take_of_length_le h]
end
end Pw

namespace Pw
open PySem PySem.Spec PyProof.Rows L2
theorem r_pow2 {H : Hp} {Q : VK} (q : Q (.int 100) H) : rI CPow (fun i j => V.int (i ^ j.toNat)) (.int 10) (.int 2) H Q := r_I (show CPow 10 2 from ⟨by decide, by decide, by decide⟩) (by rw [show (10 : Int) ^ (2 : Int).toNat = 100 by decide]; exact q)
theorem r_pow3 {H : Hp} {Q : VK} (q : Q (.int 1000) H) : rI CPow (fun i j => V.int (i ^ j.toNat)) (.int 10) (.int 3) H Q := r_I (show CPow 10 3 from ⟨by decide, by decide, by decide⟩) (by rw [show (10 : Int) ^ (3 : Int).toNat = 1000 by decide]; exact q)
theorem r_pow4 {H : Hp} {Q : VK} (q : Q (.int 10000) H) : rI CPow (fun i j => V.int (i ^ j.toNat)) (.int 10) (.int 4) H Q := r_I (show CPow 10 4 from ⟨by decide, by decide, by decide⟩) (by rw [show (10 : Int) ^ (4 : Int).toNat = 10000 by decide]; exact q)
theorem r_pow5 {H : Hp} {Q : VK} (q : Q (.int 100000) H) : rI CPow (fun i j => V.int (i ^ j.toNat)) (.int 10) (.int 5) H Q := r_I (show CPow 10 5 from ⟨by decide, by decide, by decide⟩) (by rw [show (10 : Int) ^ (5 : Int).toNat = 100000 by decide]; exact q)
theorem r_pow6 {H : Hp} {Q : VK} (q : Q (.int 1000000) H) : rI CPow (fun i j => V.int (i ^ j.toNat)) (.int 10) (.int 6) H Q := r_I (show CPow 10 6 from ⟨by decide, by decide, by decide⟩) (by rw [show (10 : Int) ^ (6 : Int).toNat = 1000000 by decide]; exact q)
theorem r_pow8 {H : Hp} {Q : VK} (q : Q (.int 100000000) H) : rI CPow (fun i j => V.int (i ^ j.toNat)) (.int 10) (.int 8) H Q := r_I (show CPow 10 8 from ⟨by decide, by decide, by decide⟩) (by rw [show (10 : Int) ^ (8 : Int).toNat = 100000000 by decide]; exact q)
theorem r_pow9 {H : Hp} {Q : VK} (q : Q (.int 1000000000) H) : rI CPow (fun i j => V.int (i ^ j.toNat)) (.int 10) (.int 9) H Q := r_I (show CPow 10 9 from ⟨by decide, by decide, by decide⟩) (by rw [show (10 : Int) ^ (9 : Int).toNat = 1000000000 by decide]; exact q)
theorem r_pow10 {H : Hp} {Q : VK} (q : Q (.int 10000000000) H) : rI CPow (fun i j => V.int (i ^ j.toNat)) (.int 10) (.int 10) H Q := r_I (show CPow 10 10 from ⟨by decide, by decide, by decide⟩) (by rw [show (10 : Int) ^ (10 : Int).toNat = 10000000000 by decide]; exact q)
theorem r_pow11 {H : Hp} {Q : VK} (q : Q (.int 100000000000) H) : rI CPow (fun i j => V.int (i ^ j.toNat)) (.int 10) (.int 11) H Q := r_I (show CPow 10 11 from ⟨by decide, by decide, by decide⟩) (by rw [show (10 : Int) ^ (11 : Int).toNat = 100000000000 by decide]; exact q)
theorem r_pow12 {H : Hp} {Q : VK} (q : Q (.int 1000000000000) H) : rI CPow (fun i j => V.int (i ^ j.toNat)) (.int 10) (.int 12) H Q := r_I (show CPow 10 12 from ⟨by decide, by decide, by decide⟩) (by rw [show (10 : Int) ^ (12 : Int).toNat = 1000000000000 by decide]; exact q)
theorem r_pow18 {H : Hp} {Q : VK} (q : Q (.int 1000000000000000000) H) : rI CPow (fun i j => V.int (i ^ j.toNat)) (.int 10) (.int 18) H Q := r_I (show CPow 10 18 from ⟨by decide, by decide, by decide⟩) (by rw [show (10 : Int) ^ (18 : Int).toNat = 1000000000000000000 by decide]; exact q)
theorem r_pow20 {H : Hp} {Q : VK} (q : Q (.int 100000000000000000000) H) : rI CPow (fun i j => V.int (i ^ j.toNat)) (.int 10) (.int 20) H Q := r_I (show CPow 10 20 from ⟨by decide, by decide, by decide⟩) (by rw [show (10 : Int) ^ (20 : Int).toNat = 100000000000000000000 by decide]; exact q)
theorem r_pow30 {H : Hp} {Q : VK} (q : Q (.int 1000000000000000000000000000000) H) : rI CPow (fun i j => V.int (i ^ j.toNat)) (.int 10) (.int 30) H Q := r_I (show CPow 10 30 from ⟨by decide, by decide, by decide⟩) (by rw [show (10 : Int) ^ (30 : Int).toNat = 1000000000000000000000000000000 by decide]; exact q)
theorem r_pow35 {H : Hp} {Q : VK} (q : Q (.int 100000000000000000000000000000000000) H) : rI CPow (fun i j => V.int (i ^ j.toNat)) (.int 10) (.int 35) H Q := r_I (show CPow 10 35 from ⟨by decide, by decide, by decide⟩) (by rw [show (10 : Int) ^ (35 : Int).toNat = 100000000000000000000000000000000000 by decide]; exact q)
theorem r_pow40 {H : Hp} {Q : VK} (q : Q (.int 10000000000000000000000000000000000000000) H) : rI CPow (fun i j => V.int (i ^ j.toNat)) (.int 10) (.int 40) H Q := r_I (show CPow 10 40 from ⟨by decide, by decide, by decide⟩) (by rw [show (10 : Int) ^ (40 : Int).toNat = 10000000000000000000000000000000000000000 by decide]; exact q)
theorem r_pow41 {H : Hp} {Q : VK} (q : Q (.int 100000000000000000000000000000000000000000) H) : rI CPow (fun i j => V.int (i ^ j.toNat)) (.int 10) (.int 41) H Q := r_I (show CPow 10 41 from ⟨by decide, by decide, by decide⟩) (by rw [show (10 : Int) ^ (41 : Int).toNat = 100000000000000000000000000000000000000000 by decide]; exact q)
theorem r_pow42 {H : Hp} {Q : VK} (q : Q (.int 1000000000000000000000000000000000000000000) H) : rI CPow (fun i j => V.int (i ^ j.toNat)) (.int 10) (.int 42) H Q := r_I (show CPow 10 42 from ⟨by decide, by decide, by decide⟩) (by rw [show (10 : Int) ^ (42 : Int).toNat = 1000000000000000000000000000000000000000000 by decide]; exact q)
theorem r_pow50 {H : Hp} {Q : VK} (q : Q (.int 100000000000000000000000000000000000000000000000000) H) : rI CPow (fun i j => V.int (i ^ j.toNat)) (.int 10) (.int 50) H Q := r_I (show CPow 10 50 from ⟨by decide, by decide, by decide⟩) (by rw [show (10 : Int) ^ (50 : Int).toNat = 100000000000000000000000000000000000000000000000000 by decide]; exact q)
theorem r_pow60 {H : Hp} {Q : VK} (q : Q (.int 1000000000000000000000000000000000000000000000000000000000000) H) : rI CPow (fun i j => V.int (i ^ j.toNat)) (.int 10) (.int 60) H Q := r_I (show CPow 10 60 from ⟨by decide, by decide, by decide⟩) (by rw [show (10 : Int) ^ (60 : Int).toNat = 1000000000000000000000000000000000000000000000000000000000000 by decide]; exact q)
end Pw

namespace Pw
open PySem PySem.Spec PyProof.Rows L2
theorem DeckAt.ne {H : Hp} {d c p : Addr} {n : Nat} (D : DeckAt H d c n) (h : H p = none) : p ≠ d := by
  obtain ⟨cells, b, l, m, t, h1, _⟩ := D.ex
  exact (ne_of_none h1 h).symm
theorem DeckAt.nec {H : Hp} {d c p : Addr} {n : Nat} (D : DeckAt H d c n) (h : H p = none) : p ≠ c := by
  obtain ⟨cells, b, l, m, t, h1, h2, _⟩ := D.ex
  exact (ne_of_none h2 h).symm
theorem DeckAt.upd {H : Hp} {d c l : Addr} {n : Nat} {o : HO} (D : DeckAt H d c n) (hd : l ≠ d) (hc : l ≠ c) : DeckAt (L2.upd H l o) d c n := by
  obtain ⟨cells, b, l', m, t, h1, h2, h3⟩ := D.ex
  exact ⟨cells, b, l', m, t, by rw [upd_ne (Ne.symm hd)]; exact h1, by rw [upd_ne (Ne.symm hc)]; exact h2, h3⟩
theorem DeckAt.tup {H : Hp} {d c p : Addr} {n : Nat} {xs : List V} (D : DeckAt H d c n) (h : H p = some (.tup xs)) : p ≠ d := by
  obtain ⟨cells, b, l, m, t, h1, _⟩ := D.ex
  exact ne_of h h1 (by intro z; cases z)
theorem at_ints {ns : List Int} {i : Int} (h0 : 0 ≤ i) (h1 : i < ns.length) : ∃ z, z ∈ ns ∧ atI (ns.map V.int) i = some (.int z) := by
  obtain ⟨j, rfl⟩ := Int.eq_ofNat_of_zero_le h0
  have hj : j < ns.length := by omega
  exact ⟨ns[j], List.getElem_mem hj, atI_nat (by rw [List.getElem?_map, List.getElem?_eq_getElem hj]; rfl)⟩
end Pw

namespace Pw
open PySem PySem.Spec PyProof.Rows L2
theorem r_shl1 {H : Hp} {Q : VK} {j : Int} (h0 : 0 ≤ j) (h1 : j ≤ 100000000) (q : ∀ k : Nat, j = (k : Int) → Q (.int (2 ^ k)) H) : rI CShl (fun i j => V.int (i * 2 ^ j.toNat)) (.int 1) (.int j) H Q := by
  obtain ⟨k, rfl⟩ := Int.eq_ofNat_of_zero_le h0
  refine r_I (shl_ok (n := 1) (by decide) (by omega)) ?_
  have e : (1 : Int) * 2 ^ ((k : Int)).toNat = 2 ^ k := by rw [Int.one_mul, Int.toNat_natCast]
  rw [e]
  exact q k rfl
theorem emod_le {a b : Int} (ha : 0 ≤ a) (hb : 0 ≤ b) : a % b ≤ a := by
  obtain ⟨n, rfl⟩ := Int.eq_ofNat_of_zero_le ha
  obtain ⟨m, rfl⟩ := Int.eq_ofNat_of_zero_le hb
  exact_mod_cast Nat.mod_le n m
theorem pow2_pos (k : Nat) : (0 : Int) < 2 ^ k := Int.pow_pos (by decide)
theorem mul_pos1 {a b : Int} (ha : 0 < a) (hb : 0 < b) : 0 < a * b := Int.mul_pos ha hb
end Pw

namespace Pw
open PySem PySem.Spec PyProof.Rows L2
section
variable {K : PySem.W.Frag} {H : Hp} {Q : VK} {i : Int} {x y v : V}
theorem kB_ii : kitB "int" "int" = some true := by decide +kernel
theorem kB_ib : kitB "int" "bool" = some false := by decide +kernel
theorem kB_bb : kitB "bool" "bool" = some true := by decide +kernel
theorem kB_bi : kitB "bool" "int" = some true := by decide +kernel
theorem kB_tt : kitB "tuple" "tuple" = some true := by decide +kernel
theorem kB_tb : kitB "tuple" "bool" = some false := by decide +kernel
theorem kB_ti : kitB "tuple" "int" = some false := by decide +kernel
theorem kB_ss : kitB "str" "str" = some true := by decide +kernel
theorem kB_nt : kitB "NoneType" "tuple" = some false := by decide +kernel
theorem kB_it : kitB "int" "tuple" = some false := by decide +kernel
theorem kB_ll : kitB "list" "list" = some true := by decide +kernel
theorem r_isi {T n : String} {b : Bool} (ty : TyX K H x (.type T)) (h : kitB T n = some b) (q : Q (.bl b) H) : rIsi K [x, .ty n] H Q := ⟨x, .ty n, .type T, .type n, b, rfl, .ty n, ty, kit_ty h, q⟩
theorem r_isiII (q : Q (.bl true) H) : rIsi K [.int i, .ty "int"] H Q := r_isi (.base (.int i)) kB_ii q
theorem r_isiIB (q : Q (.bl false) H) : rIsi K [.int i, .ty "bool"] H Q := r_isi (.base (.int i)) kB_ib q
theorem r_isiIT (q : Q (.bl false) H) : rIsi K [.int i, .ty "tuple"] H Q := r_isi (.base (.int i)) kB_it q
theorem r_isiBB {b : Bool} (q : Q (.bl true) H) : rIsi K [.bl b, .ty "bool"] H Q := r_isi (.base (.bl b)) kB_bb q
theorem r_isiSS {z : Str} (q : Q (.bl true) H) : rIsi K [.str z, .ty "str"] H Q := r_isi (.base (.str z)) kB_ss q
theorem r_isiTT {p : Addr} {xs : List V} (h : H p = some (.tup xs)) (q : Q (.bl true) H) : rIsi K [.ref p, .ty "tuple"] H Q := r_isi (.base (.tup h)) kB_tt q
theorem r_isiTB {p : Addr} {xs : List V} (h : H p = some (.tup xs)) (q : Q (.bl false) H) : rIsi K [.ref p, .ty "bool"] H Q := r_isi (.base (.tup h)) kB_tb q
theorem r_isiTI {p : Addr} {xs : List V} (h : H p = some (.tup xs)) (q : Q (.bl false) H) : rIsi K [.ref p, .ty "int"] H Q := r_isi (.base (.tup h)) kB_ti q

/-! ### data -/
theorem dp_ints : ∀ ns : List Int, DpAll K H (ns.map V.int) (ns.map PyData.int)
  | [] => .nil
  | n :: ns => .cons (.int n) (dp_ints ns)
theorem lay_ints : ∀ ns : List Int, PyData.canLayAll0 (ns.map PyData.int) = true
  | [] => by simp only [List.map_nil, PyData.canLayAll0]
  | n :: ns => by simp only [List.map_cons, PyData.canLayAll0, PyData.canLay0, lay_ints ns, Bool.and_self]
theorem depth_ints : ∀ ns : List Int, PyData.depthAll (ns.map PyData.int) = 0
  | [] => by simp only [List.map_nil, PyData.depthAll]
  | n :: ns => by simp only [List.map_cons, PyData.depthAll, PyData.depth, depth_ints ns, Nat.max_self]
theorem shaped_tup (ns : List Int) : SeqAt.shaped (.tuple (ns.map PyData.int)) = true := by
  unfold SeqAt.shaped
  simp only [PyData.canLay0, PyData.depth, lay_ints, depth_ints, Bool.true_and, decide_eq_true_eq]
  decide
theorem shaped_lst (ns : List Int) : SeqAt.shaped (.list (ns.map PyData.int)) = true := by
  unfold SeqAt.shaped
  simp only [PyData.canLay0, PyData.depth, lay_ints, depth_ints, Bool.true_and, decide_eq_true_eq]
  decide
theorem eqv_ints : ∀ ns ms : List Int, PyData.eqvAll (ns.map PyData.int) (ms.map PyData.int) = decide (ns = ms)
  | [], [] => by simp [PyData.eqvAll]
  | [], _ :: _ => by simp [PyData.eqvAll]
  | _ :: _, [] => by simp [PyData.eqvAll]
  | n :: ns, m :: ms => by
    simp only [List.map_cons, PyData.eqvAll, PyData.eqv, eqv_ints ns ms]
    by_cases h : n = m
    · by_cases h2 : ns = ms <;> simp [h, h2]
    · simp [h]
theorem r_eqDT {p q : Addr} {ns ms : List Int} (hp : SqT K H p (ns.map V.int)) (hq : SqT K H q (ms.map V.int)) (k : Q (.bl (decide (ns = ms))) H) : rEqD K (.ref p) (.ref q) H Q :=
  ⟨.tuple (ns.map PyData.int), .tuple (ms.map PyData.int), .tup hp (dp_ints ns), .tup hq (dp_ints ms), shaped_tup ns, shaped_tup ms, by rw [show PyData.eqv (.tuple (ns.map PyData.int)) (.tuple (ms.map PyData.int)) = decide (ns = ms) from by simp only [PyData.eqv, eqv_ints]]; exact k⟩
theorem r_neDT {p q : Addr} {ns ms : List Int} (hp : SqT K H p (ns.map V.int)) (hq : SqT K H q (ms.map V.int)) (k : Q (.bl (!decide (ns = ms))) H) : rNeD K (.ref p) (.ref q) H Q :=
  ⟨.tuple (ns.map PyData.int), .tuple (ms.map PyData.int), .tup hp (dp_ints ns), .tup hq (dp_ints ms), shaped_tup ns, shaped_tup ms, by rw [show PyData.eqv (.tuple (ns.map PyData.int)) (.tuple (ms.map PyData.int)) = decide (ns = ms) from by simp only [PyData.eqv, eqv_ints]]; exact k⟩
theorem r_eqDL {p q : Addr} {ns ms : List Int} (hp : SqL K H p (ns.map V.int)) (hq : SqL K H q (ms.map V.int)) (k : Q (.bl (decide (ns = ms))) H) : rEqD K (.ref p) (.ref q) H Q :=
  ⟨.list (ns.map PyData.int), .list (ms.map PyData.int), .lst hp (dp_ints ns), .lst hq (dp_ints ms), shaped_lst ns, shaped_lst ms, by rw [show PyData.eqv (.list (ns.map PyData.int)) (.list (ms.map PyData.int)) = decide (ns = ms) from by simp only [PyData.eqv, eqv_ints]]; exact k⟩
theorem r_neDL {p q : Addr} {ns ms : List Int} (hp : SqL K H p (ns.map V.int)) (hq : SqL K H q (ms.map V.int)) (k : Q (.bl (!decide (ns = ms))) H) : rNeD K (.ref p) (.ref q) H Q :=
  ⟨.list (ns.map PyData.int), .list (ms.map PyData.int), .lst hp (dp_ints ns), .lst hq (dp_ints ms), shaped_lst ns, shaped_lst ms, by rw [show PyData.eqv (.list (ns.map PyData.int)) (.list (ms.map PyData.int)) = decide (ns = ms) from by simp only [PyData.eqv, eqv_ints]]; exact k⟩
end
/-! ### comprehensions -/
section
variable {K : PySem.W.Frag} {H : Hp} {Q : VK} {σ : L2.St} {te tl : TE} {tt : TT} {g : TG} {vs : List Nat}
theorem r_lc {wi : TI} (h : wi σ H fun J H1 => ∀ D, H1 D = none → ∃ W : Nat → Nat → Hp → Prop, (∃ m, W 0 m (upd H1 D (.lst []))) ∧ ∀ i m H, W i m H →
  (J.stop i H ∧ Q (.ref D) H) ∨ (J.go i H ∧ ∃ Nx : Hp → Prop, (∀ H', Nx H' → ∃ m', m' < m ∧ W (i + 1) m' H') ∧ ∀ x H', J.yld i H x H' → g x (wipe σ vs) H' fun σ2 H2 => wipe σ2 vs = wipe σ vs ∧ tt σ2 H2 fun b H3 =>
    if b = true then te σ2 H3 fun y H4 => ∃ acc, H4 D = some (.lst acc) ∧ acc.length < sizeLine ∧ Nx (upd H4 D (.lst (acc ++ [y]))) else Nx H3)) : tLc wi g tt te vs σ H Q := h
/-- over a tuple, a list: nothing kept, nothing changed -/
theorem lc_none {p D : Addr} {xs : List V} {j : Nat} {Qd : Hp → Prop} (nD : H D = none) (hp : H p = some (.tup xs)) (hw : ∀ x, wipe ((wipe σ vs).set j (some x)) vs = wipe σ vs) (hs : ∀ x H' (F : Bool → Hp → Prop), x ∈ xs → Same H H' → F false H' → tt ((wipe σ vs).set j (some x)) H' F)
    (q : ∀ H', H' D = some (.lst []) → Same H H' → Qd H') : ∃ W : Nat → Nat → Hp → Prop, (∃ m, W 0 m (upd H D (.lst []))) ∧ ∀ i m H, W i m H →
  ((Itt K p).stop i H ∧ Qd H) ∨ ((Itt K p).go i H ∧ ∃ Nx : Hp → Prop, (∀ H', Nx H' → ∃ m', m' < m ∧ W (i + 1) m' H') ∧ ∀ x H', (Itt K p).yld i H x H' → gName j x (wipe σ vs) H' fun σ2 H2 => wipe σ2 vs = wipe σ vs ∧ tt σ2 H2 fun b H3 =>
    if b = true then te σ2 H3 fun y H4 => ∃ acc, H4 D = some (.lst acc) ∧ acc.length < sizeLine ∧ Nx (upd H4 D (.lst (acc ++ [y]))) else Nx H3) :=
  lc_tup (xs := xs) (fun _ H' => Same H H' ∧ H' D = some (.lst [])) ⟨same_new nD, upd_same⟩ (fun i H' _ ⟨s, _⟩ => SqT.of (s _ _ hp)) (fun i x H' hx ⟨s, e⟩ => ⟨hw x, hs x H' _ (List.mem_of_getElem? hx) s (iteF ⟨s, e⟩)⟩) (fun H' ⟨s, e⟩ => q H' e s)
end
def spAre (K : PySem.W.Frag) : Sp := fun vs H Q _ => ∃ (p q : Addr) (ns : List Int), vs = [.ref p, .ref q] ∧ H p = some (.tup (ns.map V.int)) ∧ H q = some (.tup (ns.map V.int)) ∧ ∀ H', Same H H' → Q (.bl true) H'
def spTakenL : Sp := fun vs H Q _ => ∃ (b e a : Nat), vs = [.int (b : Int), .int (e : Int)] ∧ b < 2 ^ a ∧ a * e ≤ 1000000 ∧ e < 2 ^ 60 ∧ Q (.int ((b ^ e : Nat) : Int)) H
end Pw
namespace Pw
open PySem PySem.Spec PyProof.Rows L2
/-- a list of pairs of ints -/
structure Rows (H : Hp) (l : Addr) (ps : List Addr) (R : Int → Int → Prop) : Prop where
  lst : H l = some (.lst (ps.map V.ref))
  row : ∀ p ∈ ps, ∃ a b : Int, H p = some (.tup [.int a, .int b]) ∧ R a b
theorem Rows.same {H H' : Hp} {l : Addr} {ps : List Addr} {R : Int → Int → Prop} (r : Rows H l ps R) (s : Same H H') : Rows H' l ps R :=
  ⟨s _ _ r.lst, fun p hp => let ⟨a, b, h, q⟩ := r.row p hp; ⟨a, b, s _ _ h, q⟩⟩
theorem Rows.keep {H H' : Hp} {l d c : Addr} {n : Nat} {ps : List Addr} {R : Int → Int → Prop} (r : Rows H l ps R) (D : DeckAt H d c n) (hl : l ≠ d) (k : Keep d H H') : Rows H' l ps R :=
  ⟨k _ _ hl r.lst, fun p hp => let ⟨a, b, h, q⟩ := r.row p hp; ⟨a, b, k _ _ (D.tup h) h, q⟩⟩
theorem Rows.push {H H' : Hp} {l p : Addr} {ps : List Addr} {R : Int → Int → Prop} {a b : Int} (r : Rows H l ps R) (hp : H p = some (.tup [.int a, .int b])) (hr : R a b) (e : H' = upd H l (.lst (ps.map V.ref ++ [.ref p]))) : Rows H' l (ps ++ [p]) R := by
  subst e
  refine ⟨by rw [upd_same, List.map_append]; rfl, fun q hq => ?_⟩
  rcases List.mem_append.mp hq with h | h
  · obtain ⟨a', b', h1, h2⟩ := r.row q h
    exact ⟨a', b', by rw [upd_ne (ne_of h1 r.lst (by intro z; cases z))]; exact h1, h2⟩
  · have : q = p := by simpa using h
    subst this
    exact ⟨a, b, by rw [upd_ne (ne_of hp r.lst (by intro z; cases z))]; exact hp, hr⟩
theorem keep_upd {d l : Addr} {H : Hp} {o : HO} : Keep l H (upd H l o) := Keep.upd
theorem r_cat {H : Hp} {Q : VK} {l b : Addr} {xs zs : List V} (h1 : H l = some (.lst xs)) (h2 : H b = some (.lst zs)) (hl : xs.length + zs.length ≤ 1000) (q : NewC Q (xs ++ zs) H) : rCat (.ref l) (.ref b) H Q :=
  ⟨l, b, xs, zs, rfl, rfl, h1, h2, Nat.le_of_lt (small1000 hl), q⟩
theorem cut_toV (xs : List V) (k : Nat) : cutV xs none (some (k : Int)) = xs.take k := by
  unfold cutV
  rw [HT.sIx_none, HT.sIx_nat, List.drop_zero, Nat.sub_zero]
  rcases Nat.le_total k xs.length with h | h
  · rw [Nat.min_eq_left h]
  · rw [Nat.min_eq_right h, List.take_of_length_le (Nat.le_refl _), List.take_of_length_le h]
theorem r_gTup2 {K : PySem.W.Frag} {p : Addr} {a b : V} {i j : Nat} {σ : L2.St} {H : Hp} {R : L2.St → Hp → Prop} (h : H p = some (.tup [a, b])) (q : R ((σ.set i (some a)).set j (some b)) H) : gTup K 2 (gCons (gName i) (gCons (gName j) gNil)) (.ref p) σ H R :=
  ⟨p, [a, b], rfl, SqT.of h, rfl, a, [b], rfl, b, [], rfl, rfl, q⟩
end Pw
namespace Pw
open PySem PySem.Spec PyProof.Rows L2
theorem pl_mk {K : PySem.W.Frag} {h : Heap} {mg : Str → Option Value} (X : K.In h) (G : h.Ns mainGlobals mg) {x : Str} {st : Stmt} {ps : List Str} {f : Addr} {oc : Value} {od an : Option Addr} {sl : Array (Option Value)} {kV doc pm cdv ct : Value}
    (a : PySem.W.nsIn K mainGlobals x = some (some (.ref f))) (l : K.lookup f = some ⟨oc, od, .func (PySem.W.fnOf x x (defArgs st) (defBody st) (defScope st) .none kV doc pm an cdv ct), sl⟩)
    (c : PySem.W.codeIn K cdv x = true) (k : PySem.W.keepIn K (.ref f) = true)
    (hb : ∀ (kV doc pm : Value) (an : Option Addr) (cdv ct : Value) (us : List Value), us.length = ps.length → bindArgs (PySem.W.fnOf x x (defArgs st) (defBody st) (defScope st) .none kV doc pm an cdv ct) ⟨us, []⟩ = pure (ps.zip us)) : Pl K mg x st ps :=
  ⟨f, _, fun_mk l c k, PySem.W.mg_of X G a, (fun_mk l c k).binds hb⟩
end Pw

/-! Texts: a text is S of its signs. -/
namespace Pw
open PySem PySem.Spec PyProof.Rows L2 SX
def rCatS : R2 := fun x y H Q => ∃ i j : Str, x = .str i ∧ y = .str j ∧ i.length + j.length ≤ sizeLine ∧ Q (.str (i ++ j)) H
theorem op_catS {X : Cx} : OpR X (binaryOp .Add) rCatS := op_add_str
def rRepS : R2 := fun x y H Q => ∃ (c : Nat) (n : Int), x = .str (S [c]) ∧ y = .int n ∧ n ≤ 100000 ∧ -100000 ≤ n ∧ Q (.str (S (List.replicate n.toNat c))) H
theorem fold_rep (c : Nat) : ∀ (n : Nat) (a : Array Nat), ((List.replicate n #[c]).foldl (· ++ ·) a) = a ++ (List.replicate n c).toArray
  | 0, a => by simp
  | n + 1, a => by
    rw [List.replicate_succ, List.foldl_cons, fold_rep c n, List.replicate_succ]
    refine Array.toList_inj.mp ?_
    simp
theorem mul_rep (c : Nat) (n : Int) : Txt.mul (S [c]) n = S (List.replicate n.toNat c) := by
  unfold Txt.mul
  by_cases h : n < 1
  · rw [if_pos h]
    have : n.toNat = 0 := by omega
    rw [this]
    rfl
  · rw [if_neg h]
    by_cases h1 : n = 1
    · subst h1
      rfl
    · rw [if_neg (by simp [S, Str.length]; exact h1)]
      show (⟨(List.replicate n.toNat #[c]).foldl (· ++ ·) #[]⟩ : Str) = _
      rw [fold_rep]
      simp [S]
theorem op_repS {X : Cx} : OpR X (binaryOp .Mult) rRepS := by
  intro pins s σ H x y v u Q I rx ry h
  obtain ⟨c, n, rfl, rfl, h1, h2, q⟩ := h
  obtain ⟨t, rfl⟩ := rx
  obtain ⟨t2, rfl⟩ := ry
  refine PySem.SB.mul ⟨by simp; omega, fun g1 g2 => ?_, fun g1 g2 => ?_⟩ fun t' k => ⟨.str _, H, I.tok _, ⟨_, rfl⟩, by rw [mul_rep]; exact q⟩
  · have e : (S [c]).length = 1 := S_len [c]
    rw [e]
    have : (1 : Int) ≤ (2 ^ 63 - 1) / n := by
      refine (Int.le_ediv_iff_mul_le (by omega)).mpr ?_
      omega
    show ¬ ((1 : Nat) : Int) > _
    omega
  · have e : (S [c]).length = 1 := S_len [c]
    rw [e]
    have h3 : n.toNat ≤ 100000 := by omega
    have hz : (100000 : Nat) ≤ sizeLine := by decide
    unfold Builtin.Str.tooLong
    simp
    omega
def rJoin (K : PySem.W.Frag) : V → List V → Hp → VK → Prop := fun x xs H Q => ∃ a p, ∃ ys : List Str, x = .str a ∧ xs = [.ref p] ∧ (SqL K H p (ys.map V.str) ∨ SqT K H p (ys.map V.str)) ∧ (ys.map (·.length)).sum + ys.length * a.length ≤ 16777216 ∧ Q (.str (Txt.join a ys)) H
theorem mt_joinN {X : Cx} : MtR X "str.join" (rJoin X.K) := mt_join
def rZfill : V → List V → Hp → VK → Prop := fun x xs H Q => ∃ (a : Str) (i : Int), x = .str a ∧ xs = [.int i] ∧ PadOk i = true ∧ Q (.str (Txt.zfill a i)) H
theorem mt_zfillN {X : Cx} : MtR X "str.zfill" rZfill := mt_zfill
def rStrI : List V → Hp → VK → Prop := fun xs H Q => ∃ i : Int, xs = [.int i] ∧ i.natAbs.log2 < 1920 ∧ Q (.str (toString i : String)) H
theorem cr_strI {X : Cx} : CallR X (.type "str") rStrI := call_str_int
def rIntS : List V → Hp → VK → Prop := fun xs H Q => ∃ (a : Str) (n : Int), xs = [.str a] ∧ PySem.intText? a = some n ∧ a.length ≤ 640 ∧ Q (.int n) H
theorem cr_intS {X : Cx} : CallR X (.type "int") rIntS := call_int_str
def rDivmod : List V → Hp → VK → Prop := fun xs H Q => ∃ i j : Int, xs = [.int i, .int j] ∧ CDivP i j ∧ ∀ p, H p = none → Q (.ref p) (upd H p (.tup [.int (i / j), .int (i % j)]))
theorem cr_divmod {X : Cx} : CallR X (.builtin "divmod") rDivmod := call_divmodW
def rInSign : R2 := fun x y H Q => ∃ (c : Nat) (z : Str), x = .str ⟨#[c]⟩ ∧ y = .str z ∧ Q (.bl (decide (c ∈ z.cps.toList))) H
theorem op_inSign {X : Cx} : OpR X (compareOp .In) rInSign := op_in_sign
/-! ### the reading -/
section
variable {K : PySem.W.Frag} {σ : L2.St} {H : Hp} {Q : VK} {te ta : TE} {a b : List Nat} {i : Int} {c : Nat}
theorem r_catS (h : a.length + b.length ≤ 100000) (q : Q (.str (S (a ++ b))) H) : rCatS (.str (S a)) (.str (S b)) H Q :=
  ⟨S a, S b, rfl, rfl, by rw [S_len, S_len]; exact Nat.le_trans h (by decide), by rw [S_cat]; exact q⟩
theorem r_repS {n : Int} (h1 : n ≤ 100000) (h2 : -100000 ≤ n) (q : Q (.str (S (List.replicate n.toNat c))) H) : rRepS (.str (S [c])) (.int n) H Q := ⟨c, n, rfl, rfl, h1, h2, q⟩
theorem r_ixS (h : a.length ≤ 100000) (ha : atI a i = some c) (q : Q (.str (S [c])) H) : rIxS (.str (S a)) (.int i) H Q := ⟨S a, i, c, rfl, rfl, by rw [S_len]; exact Nat.le_trans h (by decide), ha, q⟩
theorem r_lenSS (h : a.length ≤ 100000) (q : Q (.int (a.length : Nat)) H) : rLenT [.str (S a)] H Q := ⟨S a, rfl, by rw [S_len]; exact Nat.le_trans h (by decide), by rw [S_len]; exact q⟩
theorem r_M1 {r : V → List V → Hp → VK → Prop} (h : ta σ H fun x H1 => (∃ a, x = .str a) ∧ te σ H1 fun y H2 => r x [y] H2 Q) : tM1 r ta te σ H Q := h
theorem r_exS {A : Prop} {x : Str} (h : A) : (∃ a, V.str x = .str a) ∧ A := ⟨⟨x, rfl⟩, h⟩
theorem tl_joinE (ls : List (List Nat)) : Txt.join (S []) (ls.map S) = S ls.flatten := by
  rw [TL.join_eq]
  refine TL.ext_tl ?_
  rw [TL.tl_join]
  have e : (ls.map S).map TL.tl = ls := map_S_tl ls
  rw [e]
  show TL.joinL [] ls = ls.flatten
  induction ls with
  | nil => rfl
  | cons x r ih =>
    cases r with
    | nil => simp [TL.joinL]
    | cons y r => rw [TL.joinL, List.nil_append, ih (map_S_tl _), List.flatten_cons (l := x)]
theorem r_join {p : Addr} {ls : List (List Nat)} (h : SqL K H p (ls.map fun l => V.str (S l))) (hl : ls.flatten.length ≤ 100000) (q : Q (.str (S ls.flatten)) H) : rJoin K (.str (S [])) [.ref p] H Q := by
  refine ⟨S [], p, ls.map S, rfl, rfl, .inl ?_, ?_, ?_⟩
  · rw [List.map_map]
    exact h
  · rw [lens, S_len, List.length_nil, Nat.mul_zero, Nat.add_zero, ← List.length_flatten]
    exact Nat.le_trans hl (by decide)
  · rw [tl_joinE]
    exact q
theorem r_strI {n : Nat} (h : n < 2 ^ 1900) (q : Q (.str (S (TL.numL n))) H) : rStrI [.int (n : Int)] H Q :=
  ⟨(n : Int), rfl, by rw [Int.natAbs_natCast]; exact Nat.lt_of_lt_of_le (PySem.Flt.log2_lt_of (by decide) h) (by decide), by rw [num_S]; exact q⟩
theorem r_intS {l : List Nat} (h : l.all (fun c => decide (48 ≤ c) && decide (c ≤ 57)) = true) (hne : l ≠ []) (hl : l.length ≤ 640) (q : Q (.int ((NumText.digitsVal l : Nat) : Int)) H) : rIntS [.str (S l)] H Q :=
  ⟨S l, _, rfl, int_S h hne (by omega), by rw [S_len]; exact hl, q⟩
theorem r_divmod {n m : Nat} (h0 : 0 < m) (h1 : m < 2 ^ 8000) (q : ∀ p H', H p = none → H' p = some (.tup [.int ((n / m : Nat) : Int), .int ((n % m : Nat) : Int)]) → Same H H' → Q (.ref p) H') : rDivmod [.int (n : Int), .int (m : Int)] H Q :=
  ⟨n, m, rfl, ⟨by omega, PyProof.noPylong_of_log2 (by rw [Int.natAbs_natCast]; exact Nat.lt_of_lt_of_le (PySem.Flt.log2_lt_of (by decide) h1) (by decide))⟩, fun p hp => by
    have e1 : ((n : Int) / (m : Int)) = ((n / m : Nat) : Int) := by exact_mod_cast rfl
    have e2 : ((n : Int) % (m : Int)) = ((n % m : Nat) : Int) := by exact_mod_cast rfl
    rw [e1, e2]
    exact q p _ hp upd_same (same_new hp)⟩
theorem r_inSign {l : List Nat} (q : Q (.bl (decide (c ∈ l))) H) : rInSign (.str (S [c])) (.str (S l)) H Q := ⟨c, S l, rfl, rfl, q⟩
theorem r_iStr {R : It → Hp → Prop} (h : te σ H fun v H1 => ∃ x, v = .str x ∧ R (Its x) H1) : iStr te σ H R := h
theorem r_exStr {R : Str → Prop} {x : Str} (h : R x) : ∃ z, V.str x = .str z ∧ R z := ⟨x, rfl, h⟩
theorem for_str {l : List Nat} {g : TG} {tb : TS} {D : Ends} (Pv : Nat → L2.St → Hp → Prop) (h0 : Pv 0 σ H)
    (hs : ∀ i c σ H, l[i]? = some c → Pv i σ H → g (.str (S [c])) σ H fun σ2 H2 => tb { D with nx := Pv (i + 1), ct := Pv (i + 1), bk := D.nx } σ2 H2) (hd : ∀ σ H, Pv l.length σ H → D.nx σ H) :
    ∃ W : Nat → Nat → L2.St → Hp → Prop, (∃ m, W 0 m σ H) ∧ ∀ i m σ H, W i m σ H →
      ((Its (S l)).stop i H ∧ D.nx σ H) ∨ ((Its (S l)).go i H ∧ ∃ N : L2.St → Hp → Prop, (∀ σ' H', N σ' H' → ∃ m', m' < m ∧ W (i + 1) m' σ' H') ∧ ∀ x H', (Its (S l)).yld i H x H' → g x σ H' fun σ2 H2 => tb { D with nx := N, ct := N, bk := D.nx } σ2 H2) := by
  have es : (S l).cps.size = l.length := by simp [S]
  refine ⟨fun i m σ H => m = l.length - i ∧ i ≤ l.length ∧ Pv i σ H, ⟨l.length, by simp, Nat.zero_le _, h0⟩, ?_⟩
  rintro i m σ H ⟨rfl, hi, p⟩
  by_cases hlt : i < l.length
  · refine .inr ⟨by show i < _; rw [es]; exact hlt, Pv (i + 1), fun σ' H' p' => ⟨l.length - (i + 1), by omega, rfl, hlt, p'⟩, fun x H' y => ?_⟩
    obtain ⟨e, c, hc, rfl⟩ := y
    subst e
    have hc' : l[i]? = some c := by
      have : (S l).cps[i]? = l[i]? := by simp [S]
      rw [← this]
      exact hc
    exact hs i c σ H' hc' p
  · have e : i = l.length := by omega
    subst e
    exact .inl ⟨by show _ ≤ _; rw [es]; exact Nat.le_refl _, hd σ H p⟩
theorem cutS_to (l : List Nat) (k : Nat) : cutS (S l) none (some (k : Int)) = S (l.take k) := by
  unfold cutS
  rw [HT.sIx_none, HT.sIx_nat, S_len]
  show S ((l.drop 0).take (min k l.length - 0)) = _
  rw [List.drop_zero, Nat.sub_zero]
  congr 1
  rcases Nat.le_total k l.length with h | h
  · rw [Nat.min_eq_left h]
  · rw [Nat.min_eq_right h, List.take_of_length_le (Nat.le_refl _), List.take_of_length_le h]
theorem cutS_from (l : List Nat) (k : Nat) : cutS (S l) (some (k : Int)) none = S (l.drop k) := by
  unfold cutS
  rw [HT.sIx_none, HT.sIx_nat, S_len]
  show S ((l.drop (min k l.length)).take (l.length - min k l.length)) = _
  rcases Nat.le_total k l.length with h | h
  · rw [Nat.min_eq_left h, List.take_of_length_le (by rw [List.length_drop]; exact Nat.le_refl _)]
  · rw [Nat.min_eq_right h, List.drop_of_length_le (Nat.le_refl _), List.drop_of_length_le h, List.take_nil]
theorem r_slS_to {l : List Nat} {k : Nat} (h : l.length ≤ 100000) (q : Q (.str (S (l.take k))) H) : rSlS (.str (S l)) none (some (k : Int)) H Q := ⟨S l, rfl, by rw [S_len]; exact Nat.le_trans h (by decide), by rw [cutS_to]; exact q⟩
theorem r_slS_from {l : List Nat} {k : Nat} (h : l.length ≤ 100000) (q : Q (.str (S (l.drop k))) H) : rSlS (.str (S l)) (some (k : Int)) none H Q := ⟨S l, rfl, by rw [S_len]; exact Nat.le_trans h (by decide), by rw [cutS_from]; exact q⟩
def RevC (K : PySem.W.Frag) (Q : VK) (x : V) (H1 : Hp) : Prop := ∃ a xs, x = .ref a ∧ SqL K H1 a xs ∧ ∀ p, H1 p = none → Q (.ref p) (upd H1 p (.lst xs.reverse))
theorem r_revL (h : te σ H fun x H1 => RevC K Q x H1) : tRevL K te σ H Q := h
theorem revC {p : Addr} {xs : List V} (h : SqL K H p xs) (q : NewC Q xs.reverse H) : RevC K Q (.ref p) H := ⟨p, xs, rfl, h, q⟩
theorem r_iteS {A B : Prop} (h1 : a = b → A) (h2 : a ≠ b → B) : if decide (V.str (S a) = V.str (S b)) = true then A else B := r_ite (fun e => h1 (S_inj (V.str.inj e))) (fun e => h2 fun z => e (by rw [z]))
theorem r_iteNS {A B : Prop} (h1 : a ≠ b → A) (h2 : a = b → B) : if (!decide (V.str (S a) = V.str (S b))) = true then A else B := r_iteN (fun e => h1 fun z => e (by rw [z])) (fun e => h2 (S_inj (V.str.inj e)))
theorem r_eqSS (q : Q (.bl (decide (V.str (S a) = V.str (S b)))) H) : rEq (.str (S a)) (.str (S b)) H Q := ⟨rfl, q⟩
theorem r_neSS (q : Q (.bl (!decide (V.str (S a) = V.str (S b)))) H) : rNe (.str (S a)) (.str (S b)) H Q := ⟨rfl, q⟩
end
/-! ### figures -/
open TL
def fixd : Nat → Nat → List Nat
  | 0, _ => []
  | k + 1, r => fixd k (r / 10) ++ [48 + r % 10]
theorem fixd_zero : ∀ k, fixd k 0 = List.replicate k 48
  | 0 => rfl
  | k + 1 => by
    show fixd k (0 / 10) ++ [48 + 0 % 10] = _
    rw [Nat.zero_div, fixd_zero k, Nat.zero_mod, List.replicate_succ']
theorem num_split : ∀ (k q r : Nat), 0 < q → r < 10 ^ k → numL (q * 10 ^ k + r) = numL q ++ fixd k r
  | 0, q, r, hq, hr => by
    have : r = 0 := by simpa using hr
    subst this
    simp [fixd]
  | k + 1, q, r, hq, hr => by
    have h1 : 10 ≤ q * 10 ^ (k + 1) + r := by
      have : 10 ^ 1 ≤ 10 ^ (k + 1) := Nat.pow_le_pow_right (by decide) (by omega)
      have : 1 * 10 ^ (k + 1) ≤ q * 10 ^ (k + 1) := Nat.mul_le_mul_right _ hq
      omega
    have e0 : q * 10 ^ (k + 1) + r = (q * 10 ^ k) * 10 + r := by rw [Nat.pow_succ, Nat.mul_assoc]
    have e1 : (q * 10 ^ (k + 1) + r) / 10 = q * 10 ^ k + r / 10 := by omega
    have e2 : (q * 10 ^ (k + 1) + r) % 10 = r % 10 := by omega
    rw [numL_step h1, e1, e2, num_split k q (r / 10) hq (by rw [Nat.pow_succ] at hr; omega), List.append_assoc]
    rfl
theorem fixd_pad : ∀ (k r : Nat), r < 10 ^ (k + 1) → fixd (k + 1) r = List.replicate (k + 1 - (numL r).length) 48 ++ numL r
  | k, r, hr => by
    induction k generalizing r with
    | zero =>
      rw [numL_lt (by simpa using hr)]
      show fixd 0 (r / 10) ++ [48 + r % 10] = _
      rw [Nat.mod_eq_of_lt (by simpa using hr)]
      rfl
    | succ k ih =>
      by_cases h : r < 10
      · rw [numL_lt h]
        show fixd (k + 1) (r / 10) ++ [48 + r % 10] = _
        rw [Nat.div_eq_of_lt h, fixd_zero, Nat.mod_eq_of_lt h]
        rfl
      · rw [numL_step (by omega)]
        show fixd (k + 1) (r / 10) ++ [48 + r % 10] = _
        rw [ih (r / 10) (by rw [Nat.pow_succ] at hr; omega), List.length_append, List.append_assoc]
        congr 2
        show k + 1 - _ = k + 1 + 1 - (_ + 1)
        omega
theorem numL_len_le {n k : Nat} (h : n < 10 ^ (k + 1)) : (numL n).length ≤ k + 1 := numL_len (Nat.succ_pos k) h
theorem zfill_num {n k : Nat} (h : n < 10 ^ (k + 1)) : Txt.zfill (S (numL n)) ((k + 1 : Nat) : Int) = S (fixd (k + 1) n) := by
  rw [fixd_pad k n h]
  unfold Txt.zfill
  have hl := numL_len_le h
  rw [S_len]
  by_cases h1 : ((k + 1 : Nat) : Int) ≤ ((numL n).length : Int)
  · rw [if_pos h1]
    have : k + 1 - (numL n).length = 0 := by omega
    rw [this]
    rfl
  · rw [if_neg h1]
    have hd := numL_digits n
    have hz : ∀ m, zfilled (S (numL n)) m = Builtin.Str.padded (S (numL n)) m 0 48 := by
      intro m
      unfold zfilled
      have hne := numL_ne n
      cases e : numL n with
      | nil => exact absurd e hne
      | cons c r =>
        have hc := hd c (by rw [e]; exact List.mem_cons_self ..)
        have : (S (c :: r)).cps[0]? = some c := by simp [S]
        rw [this]
        split
        · rename_i z
          have := Option.some.inj z
          omega
        · rename_i z
          have := Option.some.inj z
          omega
        · rfl
    rw [hz]
    refine ext_tl ?_
    show (Builtin.Str.padded _ _ _ _).cps.toList = _
    rw [PyProof.Rows.padded_list]
    show List.replicate _ 48 ++ numL n ++ List.replicate 0 48 = List.replicate _ 48 ++ numL n
    rw [Int.toNat_natCast, List.replicate_zero, List.append_nil]
end Pw

namespace Pw
open PySem PySem.Spec PyProof.Rows L2 SX
/-! promises of the program's roots -/
def spTaken : Sp := fun vs H Q _ => ∃ (b e a : Nat), vs = [.int (b : Int), .int (e : Int)] ∧ b < 2 ^ a ∧ a * e ≤ 1000000 ∧ e < 2 ^ 60 ∧ Q (.int ((b ^ e : Nat) : Int)) H
theorem bits_lt (n : Nat) : n < 2 ^ Builtin.Int.intBits (n : Int) := by
  unfold Builtin.Int.intBits
  by_cases h : (n : Int) == 0
  · rw [if_pos h]
    have : n = 0 := by simpa using h
    rw [this]
    decide
  · rw [if_neg h, Int.natAbs_natCast]
    exact Nat.lt_log2_self
theorem bits_le {n m : Nat} (h : n < 2 ^ m) : Builtin.Int.intBits (n : Int) ≤ m := PyProof.Rows.intBits_le (by rw [Int.natAbs_natCast]; exact h)
theorem bits_ge {n : Nat} (h : 0 < n) : 2 ^ (Builtin.Int.intBits (n : Int) - 1) ≤ n ∧ 0 < Builtin.Int.intBits (n : Int) := by
  unfold Builtin.Int.intBits
  rw [if_neg (by simp; omega), Int.natAbs_natCast]
  exact ⟨Nat.log2_self_le (by omega), Nat.succ_pos _⟩
theorem cast_lt {b a : Nat} (h : b < 2 ^ a) : ((b : Nat) : Int).natAbs < 2 ^ a := by rw [Int.natAbs_natCast]; exact h
theorem mulx_nat {n m : Nat} (a b : Nat) (ha : n ≤ 2 ^ a) (hb : m ≤ 2 ^ b) (h : a + b ≤ 100000000) : CMulX (n : Int) (m : Int) :=
  mulx_ok (a := a + 1) (b := b + 1) (cast_lt (Nat.lt_of_le_of_lt ha (Nat.pow_lt_pow_right (by decide) (Nat.lt_succ_self a)))) (cast_lt (Nat.lt_of_le_of_lt hb (Nat.pow_lt_pow_right (by decide) (Nat.lt_succ_self b)))) (by omega)
theorem mulx_pows {b e a q q' : Nat} (hb : b < 2 ^ a) (hae : a * e ≤ 1000000) (h : q ≤ e) (h' : q' ≤ e) : CMulX ((b ^ q : Nat) : Int) ((b ^ q' : Nat) : Int) :=
  mulx_nat (a * e) (a * e) (Pm.pow_bound hb h) (Pm.pow_bound hb h') (by omega)
theorem pow_at {b e p : Nat} : b ^ (e / 2 ^ p) = (if (e / 2 ^ p) % 2 = 1 then b ^ (e / 2 ^ (p + 1)) * b ^ (e / 2 ^ (p + 1)) * b else b ^ (e / 2 ^ (p + 1)) * b ^ (e / 2 ^ (p + 1))) := Pm.pow_bit b e p
theorem mono_vv {g : Int → Int → V} {a b : Nat} (σ : L2.St) (H : Hp) (R R' : Bool → Hp → Prop) (h : ∀ c H1, R c H1 → R' c H1) (x : tTest (tOp (rI0 g) (tVar a) (tVar b)) σ H R) : tTest (tOp (rI0 g) (tVar a) (tVar b)) σ H R' := by
  obtain ⟨v, hv, w, hw, i, j, e1, e2, k, ek, r⟩ := x
  exact ⟨v, hv, w, hw, i, j, e1, e2, k, ek, h _ _ r⟩
def spStep : Sp := fun vs H Q _ => ∃ (n m x s : Nat), vs = [.int (n : Int), .int ((m + 1 : Nat) : Int), .int (x : Int)] ∧ 0 < x ∧ x ≤ 2 ^ s ∧ s * m ≤ 8900 ∧ m ≤ 8000 ∧ s ≤ 8900 ∧ Q (.int (Pm.step n m x : Nat)) H
def spRoot : Sp := fun vs H Q _ => ∃ (n e : Nat), vs = [.int (n : Int), .int (e : Int)] ∧ 0 < e ∧ e ≤ 4000 ∧ n < 2 ^ 4000 ∧ ∀ r : Nat, Pm.IsRoot n e r → Q (.int (r : Int)) H
def spRootOf : Sp := fun vs H Q _ => ∃ (n e : Nat), vs = [.int (n : Int), .int (e : Int)] ∧ 0 < e ∧ e ≤ 200 ∧ n < 2 ^ 4000 ∧
  ∀ (r : Nat) (p : Addr) (H' : Hp), Pm.IsRoot n e r → H p = none → Same H H' → H' p = some (.tup [.int (r : Int), .int ((n : Int) - ((r ^ e : Nat) : Int))]) → Q (.ref p) H'
theorem root_start {n e L : Nat} (hn : 0 < n) (he : 0 < e) (h1 : n < 2 ^ L) : n < (2 ^ ((L - 1) / e + 1) + 1) ^ e := by
  refine Nat.lt_of_lt_of_le h1 ?_
  refine Nat.le_trans ?_ (Nat.pow_le_pow_left (Nat.le_succ _) e)
  rw [← Nat.pow_mul]
  refine Nat.pow_le_pow_right (by decide) ?_
  have := Nat.lt_mul_div_succ (L - 1) he
  rw [Nat.mul_comm]
  have e2 : e * ((L - 1) / e).succ = e * ((L - 1) / e + 1) := rfl
  omega
theorem s_bound {L e s : Nat} (he : 0 < e) (hs : s = (L - 1) / e + 1) : s * (e - 1) ≤ L + e := by
  have h := Nat.div_mul_le_self (L - 1) e
  subst hs
  have h2 : (L - 1) / e * (e - 1) ≤ (L - 1) / e * e := Nat.mul_le_mul_left _ (by omega)
  rw [Nat.succ_mul]
  omega
theorem root_done {n m x : Nat} (hx : 0 < x) (h1 : n < (x + 1) ^ (m + 1)) (h2 : ¬ Pm.step n m x < x) : Pm.IsRoot n (m + 1) x :=
  ⟨Nat.le_of_not_lt fun z => h2 (Pm.step_down z), h1⟩
theorem step_pos {n m x : Nat} (hn : 0 < n) (hx : 0 < x) : 0 < Pm.step n m x := by
  have := Pm.step_up (n := n) (m := m) hx
  rcases Nat.eq_zero_or_pos (Pm.step n m x) with z | z
  · rw [z, Nat.zero_add, Nat.one_pow] at this
    omega
  · exact z
def meas (σ : L2.St) : Nat := match σ with
  | [_, _, _, some (.int x), _] => x.toNat
  | _ => 0
def spLaw (K : PySem.W.Frag) : Sp := fun vs H Q _ => ∃ (a : Addr) (ns : List Int), vs = [.ref a] ∧ SqL K H a (ns.map V.int) ∧ ns.length ≤ 63 ∧ ∀ H', Q (.bl true) H'
def PairOk (a e : Int) : Prop := 0 ≤ a ∧ a ≤ 10 ^ 40 ∧ 1 ≤ e ∧ e ≤ 200
theorem small40 {a : Int} (h0 : 0 ≤ a) (h : a ≤ 10 ^ 40) : ∃ n : Nat, a = n ∧ n < 2 ^ 140 ∧ n ≤ 10 ^ 40 := by
  refine ⟨a.toNat, by omega, ?_, ?_⟩
  · have e : ((10 : Int) ^ 40) < 2 ^ 140 := by decide
    have e2 : ((2 : Int) ^ 140).toNat = 2 ^ 140 := by decide
    omega
  · have e2 : ((10 : Int) ^ 40).toNat = 10 ^ 40 := by decide
    omega
theorem root_le {n e r : Nat} (he : 0 < e) (h : Pm.IsRoot n e r) : r ≤ n := by
  refine Nat.le_trans ?_ h.1
  rcases Nat.eq_zero_or_pos r with z | z
  · rw [z]; exact Nat.zero_le _
  · exact Nat.le_self_pow (by omega) r
end Pw

namespace Pw
open PySem PySem.Spec PyProof.Rows L2 SX TL
theorem lit_e : Str.ofString "" = S [] := by decide +kernel
theorem lit_fig : Str.ofString "0123456789" = S [48, 49, 50, 51, 52, 53, 54, 55, 56, 57] := by decide +kernel
theorem lit_0 : Str.ofString "0" = S [48] := by decide +kernel
theorem lit_hat : Str.ofString "^" = S [94] := by decide +kernel
theorem lit_00 : Str.ofString "0^0" = S [48, 94, 48] := by decide +kernel
theorem lit_210 : Str.ofString "2^10" = S [50, 94, 49, 48] := by decide +kernel
def figs : List Nat := [48, 49, 50, 51, 52, 53, 54, 55, 56, 57]
def dgt (c : Nat) : Bool := decide (48 ≤ c) && decide (c ≤ 57)
theorem dgt_iff {c : Nat} : dgt c = true ↔ 48 ≤ c ∧ c ≤ 57 := by simp [dgt]
theorem mem_figs {c : Nat} : c ∈ [48, 49, 50, 51, 52, 53, 54, 55, 56, 57] ↔ dgt c = true := by
  rw [dgt_iff]
  simp only [List.mem_cons, List.not_mem_nil, or_false]
  omega
theorem digit_at {d : Nat} (h : d < 10) : atI [48, 49, 50, 51, 52, 53, 54, 55, 56, 57] (d : Int) = some (48 + d) := by
  refine atI_nat ?_
  have : d = 0 ∨ d = 1 ∨ d = 2 ∨ d = 3 ∨ d = 4 ∨ d = 5 ∨ d = 6 ∨ d = 7 ∨ d = 8 ∨ d = 9 := by omega
  rcases this with rfl | rfl | rfl | rfl | rfl | rfl | rfl | rfl | rfl | rfl <;> rfl
theorem same_updNew {H H' : Hp} {l : Addr} {o : HO} (s : Same H H') (h : H l = none) : Same H (upd H' l o) := fun b x hb => by rw [upd_ne (ne_of_none hb h)]; exact s b x hb
theorem fixd_len : ∀ k r : Nat, (fixd k r).length = k
  | 0, _ => rfl
  | k + 1, r => by
    show (fixd k (r / 10) ++ [48 + r % 10]).length = k + 1
    rw [List.length_append, fixd_len k]
    rfl
theorem digitsVal_snoc (l : List Nat) (c : Nat) : NumText.digitsVal (l ++ [c]) = NumText.digitsVal l * 10 + (c - 48) := by
  unfold NumText.digitsVal
  rw [List.foldl_append]
  rfl
theorem fold_lt : ∀ (l : List Nat) (a k : Nat), NumText.AllDigits l → a < 10 ^ k → l.foldl (fun acc c => acc * 10 + (c - 48)) a < 10 ^ (k + l.length)
  | [], a, k, _, h => h
  | c :: r, a, k, hd, h => by
    have hc := hd.head
    have := fold_lt r (a * 10 + (c - 48)) (k + 1) hd.tail (by rw [Nat.pow_succ]; omega)
    rw [List.foldl_cons, List.length_cons]
    rw [show k + (r.length + 1) = k + 1 + r.length by omega]
    exact this
theorem digitsVal_lt {l : List Nat} (h : NumText.AllDigits l) : NumText.digitsVal l < 10 ^ l.length := by
  have := fold_lt l 0 0 h (by decide)
  rw [Nat.zero_add] at this
  exact this
theorem numL_head : ∀ (n : Nat), 0 < n → ∀ c r, numL n = c :: r → c ≠ 48
  | n, hn, c, r, e => by
    by_cases h : n < 10
    · rw [numL_lt h] at e
      cases e
      omega
    · rw [numL_step (by omega)] at e
      cases e2 : numL (n / 10) with
      | nil => exact absurd e2 (numL_ne _)
      | cons c' r' =>
        rw [e2] at e
        cases e
        exact numL_head (n / 10) (by omega) _ _ e2
termination_by n => n
decreasing_by omega
theorem numL_dgt (n : Nat) : ∀ c ∈ numL n, dgt c = true := fun c hc => dgt_iff.mpr (numL_digits n c hc)
theorem takeW_all {l r : List Nat} (h : ∀ c ∈ l, dgt c = true) (h2 : ∀ c s, r = c :: s → dgt c = false) : (l ++ r).takeWhile dgt = l := by
  induction l with
  | nil =>
    cases r with
    | nil => rfl
    | cons c s => rw [List.nil_append, List.takeWhile_cons, h2 c s rfl]; rfl
  | cons c l ih =>
    rw [List.cons_append, List.takeWhile_cons, h c (List.mem_cons_self ..), if_pos rfl, ih fun d hd => h d (List.mem_cons_of_mem _ hd)]
theorem takeW_self {l : List Nat} (h : ∀ c ∈ l, dgt c = true) : l.takeWhile dgt = l := by
  have := takeW_all (r := []) h (fun _ _ z => nomatch z)
  rw [List.append_nil] at this
  exact this
section
variable {X : Cx} {x : Str} {pos : Pos}
theorem pe_globI {i : Int} {tk : Tok} (hg : Gl X x) (hm : X.mg x = some (.int i tk)) (hd : (x == ("__debug__" : Str)) = false := by decide) : PE X (.Name x pos) (tC (.int i)) := pe_glob hg hm ⟨_, rfl⟩ hd
theorem pe_globS {z : Str} {tk : Tok} (hg : Gl X x) (hm : X.mg x = some (.str z tk)) (hd : (x == ("__debug__" : Str)) = false := by decide) : PE X (.Name x pos) (tC (.str z)) := pe_glob hg hm ⟨_, rfl⟩ hd
theorem pe_globR {a : Addr} (hg : Gl X x) (hm : X.mg x = some (.ref a)) (hd : (x == ("__debug__" : Str)) = false := by decide) : PE X (.Name x pos) (tC (.ref a)) := pe_glob hg hm rfl hd
end
/-- where the figures from s on end -/
def runEnd (l : List Nat) (s : Nat) : Nat := s + ((l.drop s).takeWhile dgt).length
theorem tw_len (l : List Nat) : (l.takeWhile dgt).length ≤ l.length := by
  induction l with
  | nil => exact Nat.le_refl _
  | cons c r ih =>
    rw [List.takeWhile_cons]
    split
    · simp; exact ih
    · exact Nat.zero_le _
theorem runEnd_le {l : List Nat} {s : Nat} (h : s ≤ l.length) : runEnd l s ≤ l.length := by
  unfold runEnd
  have := tw_len (l.drop s)
  rw [List.length_drop] at this
  omega
theorem tw_at (l : List Nat) : ∀ k, k < (l.takeWhile dgt).length → ∃ c, l[k]? = some c ∧ dgt c = true := by
  induction l with
  | nil => intro k hk; exact absurd hk (Nat.not_lt_zero _)
  | cons c r ih =>
    intro k hk
    rw [List.takeWhile_cons] at hk
    cases hc : dgt c with
    | false => rw [hc] at hk; exact absurd hk (Nat.not_lt_zero _)
    | true =>
      rw [hc] at hk
      cases k with
      | zero => exact ⟨c, rfl, hc⟩
      | succ k =>
        have := ih k (by simpa using hk)
        simpa using this
theorem tw_end (l : List Nat) : ∀ c, l[(l.takeWhile dgt).length]? = some c → dgt c = false := by
  induction l with
  | nil => intro c hc; exact absurd hc (by simp)
  | cons d r ih =>
    intro c hc
    rw [List.takeWhile_cons] at hc
    cases hd : dgt d with
    | false =>
      rw [hd] at hc
      have : d = c := by simpa using hc
      rw [← this]
      exact hd
    | true =>
      rw [hd] at hc
      exact ih c (by simpa using hc)
theorem run_in {l : List Nat} {s k : Nat} (h1 : s ≤ k) (h2 : k < runEnd l s) : ∃ c, l[k]? = some c ∧ dgt c = true := by
  have := tw_at (l.drop s) (k - s) (by unfold runEnd at h2; omega)
  rw [List.getElem?_drop, show s + (k - s) = k by omega] at this
  exact this
theorem run_out {l : List Nat} {s : Nat} {c : Nat} (h : l[runEnd l s]? = some c) : dgt c = false := by
  refine tw_end (l.drop s) c ?_
  rw [List.getElem?_drop]
  exact h
def spFigEnd : Sp := fun vs H Q _ => ∃ (l : List Nat) (s : Nat), vs = [.str (S l), .int (s : Int)] ∧ l.length ≤ 10000 ∧ s ≤ l.length ∧ runEnd l s ≠ s ∧ ¬ (l[s]? = some 48 ∧ s + 1 < runEnd l s) ∧ Q (.int (runEnd l s : Nat)) H
def spWorth : Sp := fun vs H Q _ => ∃ (l : List Nat), vs = [.str (S l)] ∧ l.length ≤ 10000 ∧ NumText.AllDigits l ∧ Q (.int (NumText.digitsVal l : Nat)) H
/-- what is read of a number's figures, of BASE^EXPONENT -/
def spReadOk : Sp := fun vs H Q _ => ∃ (l : List Nat) (b : Nat), vs = [.str (S l)] ∧ (numL b).length ≤ 5000 ∧ ((l = numL b ∧ Q (.int (b : Nat)) H) ∨ ∃ e : Nat, l = numL b ++ 94 :: numL e ∧ e ≤ 200 ∧ b < 2 ^ 4000 ∧ Q (.int ((b ^ e : Nat) : Int)) H)
def spShown : Sp := fun vs H Q _ => ∃ n : Nat, vs = [.int (n : Int)] ∧ n < 10 ^ 5000 ∧ ∀ H', Same H H' → Q (.str (S (numL n))) H'
def spFigures : Sp := fun vs H Q _ => ∃ n : Nat, vs = [.int (n : Int)] ∧ n < 10 ^ 5000 ∧ Q (.str (S (numL n))) H
def spWhole : Sp := fun vs H Q _ => ∃ a : Int, vs = [.int a, .int a] ∧ Q (.bl true) H
end Pw
namespace Pw
open PySem PySem.Spec PyProof.Rows L2
/-- while by a word and a measure, its test read along (nothing to be shown of the test) -/
def WhileGo (W : L2.St → Hp → Prop) (μ : L2.St → Hp → Nat) (m : Nat) (t : TS) (D : Ends) (σ : L2.St) (H : Hp) : Prop :=
  ∃ N : L2.St → Hp → Prop, (∀ σ' H', N σ' H' → ∃ m', m' < m ∧ (m' = μ σ' H' ∧ W σ' H')) ∧ t { D with nx := N, ct := N, bk := D.nx } σ H
theorem whileGo {W : L2.St → Hp → Prop} {μ : L2.St → Hp → Nat} {m : Nat} {t : TS} {D : Ends} {σ : L2.St} {H : Hp}
    (h : ∀ N : L2.St → Hp → Prop, (∀ σ' H', W σ' H' → μ σ' H' < m → N σ' H') → t { D with nx := N, ct := N, bk := D.nx } σ H) : WhileGo W μ m t D σ H :=
  ⟨fun σ' H' => W σ' H' ∧ μ σ' H' < m, fun σ' H' ⟨a, b⟩ => ⟨μ σ' H', b, rfl, a⟩, h _ fun σ' H' a b => ⟨a, b⟩⟩
theorem r_whl {tt : TT} {t : TS} {D : Ends} {σ : L2.St} {H : Hp} (W : L2.St → Hp → Prop) (μ : L2.St → Hp → Nat) (h0 : W σ H)
    (hs : ∀ σ H, W σ H → tt σ H fun b H1 => if b = true then WhileGo W μ (μ σ H) t D σ H1 else D.nx σ H1) : tWhile tt t D σ H := by
  refine ⟨fun m σ H => m = μ σ H ∧ W σ H, ⟨_, rfl, h0⟩, ?_⟩
  rintro m σ H ⟨rfl, w⟩
  exact hs σ H w
end Pw
namespace Pw
open PySem PySem.Spec PyProof.Rows L2
theorem r_aug {n : Nat} {te : TE} {ti : TIp} {D : Ends} {σ : L2.St} {H : Hp} {x : V} (h : σ[n]? = some (some x)) (q : te σ H fun y H1 => ti x y H1 fun z H2 => D.nx (σ.set n (some z)) H2) : tAug n te ti D σ H := ⟨x, h, q⟩
theorem r_ipI {f : Int → Int → Int} {i j : Int} {H : Hp} {Q : VK} (q : Q (.int (f i j)) H) : ipI f (.int i) (.int j) H Q := ⟨i, j, rfl, rfl, q⟩
end Pw
namespace Pw
open PySem PySem.Spec PyProof.Rows L2 SX TL
theorem fig_ok {l post : List Nat} {s b : Nat} (h : l.drop s = numL b ++ post) (h2 : ∀ c r, post = c :: r → dgt c = false) : runEnd l s = s + (numL b).length ∧ runEnd l s ≠ s ∧ ¬ (l[s]? = some 48 ∧ s + 1 < runEnd l s) := by
  have hne := numL_ne b
  have hpos : 0 < (numL b).length := List.length_pos_iff.mpr hne
  have e : runEnd l s = s + (numL b).length := by
    unfold runEnd
    rw [h, takeW_all (numL_dgt b) h2]
  refine ⟨e, by omega, ?_⟩
  rintro ⟨h0, h1⟩
  rw [e] at h1
  rcases Nat.eq_zero_or_pos b with z | z
  · rw [z, numL_lt (by decide)] at h1
    simp at h1
  · cases e2 : numL b with
    | nil => exact hne e2
    | cons c r =>
      have : l[s]? = some c := by
        have e3 : (l.drop s)[0]? = some c := by
          rw [h, e2]
          rfl
        rw [List.getElem?_drop, Nat.add_zero] at e3
        exact e3
      rw [this] at h0
      exact numL_head b z c r e2 (Option.some.inj h0)
end Pw
namespace Pw
theorem ediv_nat (n m : Nat) : (n : Int) / (m : Int) = ((n / m : Nat) : Int) := by exact_mod_cast rfl
theorem emod_nat (n m : Nat) : (n : Int) % (m : Int) = ((n % m : Nat) : Int) := by exact_mod_cast rfl
end Pw
namespace Pw
open PySem PySem.Spec PyProof.Rows L2 SX TL
/-- a list of tuples -/
structure RowsV (H : Hp) (l : Addr) (ps : List Addr) (R : List V → Prop) : Prop where
  lst : H l = some (.lst (ps.map V.ref))
  row : ∀ p ∈ ps, ∃ xs : List V, H p = some (.tup xs) ∧ R xs
theorem RowsV.same {H H' : Hp} {l : Addr} {ps : List Addr} {R : List V → Prop} (r : RowsV H l ps R) (s : Same H H') : RowsV H' l ps R :=
  ⟨s _ _ r.lst, fun p hp => let ⟨a, h, q⟩ := r.row p hp; ⟨a, s _ _ h, q⟩⟩
theorem RowsV.keep {H H' : Hp} {l d c : Addr} {n : Nat} {ps : List Addr} {R : List V → Prop} (r : RowsV H l ps R) (D : DeckAt H d c n) (hl : l ≠ d) (k : Keep d H H') : RowsV H' l ps R :=
  ⟨k _ _ hl r.lst, fun p hp => let ⟨a, h, q⟩ := r.row p hp; ⟨a, k _ _ (D.tup h) h, q⟩⟩
theorem RowsV.push {H H' : Hp} {l p : Addr} {ps : List Addr} {R : List V → Prop} {xs : List V} (r : RowsV H l ps R) (hp : H p = some (.tup xs)) (hr : R xs) (e : H' = upd H l (.lst (ps.map V.ref ++ [.ref p]))) : RowsV H' l (ps ++ [p]) R := by
  subst e
  refine ⟨by rw [upd_same, List.map_append]; rfl, fun q hq => ?_⟩
  rcases List.mem_append.mp hq with h | h
  · obtain ⟨a', h1, h2⟩ := r.row q h
    exact ⟨a', by rw [upd_ne (ne_of h1 r.lst (by intro z; cases z))]; exact h1, h2⟩
  · have : q = p := by simpa using h
    subst this
    exact ⟨xs, by rw [upd_ne (ne_of hp r.lst (by intro z; cases z))]; exact hp, hr⟩
theorem r_gTup3 {K : PySem.W.Frag} {p : Addr} {a b c : V} {i j k : Nat} {σ : L2.St} {H : Hp} {R : L2.St → Hp → Prop} (h : H p = some (.tup [a, b, c])) (q : R (((σ.set i (some a)).set j (some b)).set k (some c)) H) : gTup K 3 (gCons (gName i) (gCons (gName j) (gCons (gName k) gNil))) (.ref p) σ H R :=
  ⟨p, [a, b, c], rfl, SqT.of h, rfl, a, [b, c], rfl, b, [c], rfl, c, [], rfl, rfl, q⟩
theorem numL_lt_pow (n : Nat) : n < 10 ^ (numL n).length := by
  have h := digitsVal_lt (numL_digits n)
  rw [numL_val] at h
  exact h
end Pw

namespace Pw
open PySem PySem.Spec PyProof.Rows L2 SX TL
theorem r_gUnl2 {K : PySem.W.Frag} {p : Addr} {a b : V} {i j : Nat} {σ : L2.St} {H : Hp} {R : L2.St → Hp → Prop} (h : H p = some (.lst [a, b])) (q : R ((σ.set i (some a)).set j (some b)) H) : gUnl K 2 (gCons (gName i) (gCons (gName j) gNil)) (.ref p) σ H R :=
  ⟨p, [a, b], rfl, SqL.of h, rfl, a, [b], rfl, b, [], rfl, rfl, q⟩
/-- sorted of two -/
theorem r_sorted2 {K : PySem.W.Frag} {p : Addr} {a b : Int} {H : Hp} {Q : VK} (h : SqL K H p [.int a, .int b]) (q : ∀ (x y : Int) (p' : Addr) (H' : Hp), (x = a ∧ y = b ∨ x = b ∧ y = a) → x ≤ y → H p' = none → H' p' = some (.lst [.int x, .int y]) → Same H H' → Q (.ref p') H') : rSorted K [.ref p] H Q := by
  refine ⟨p, [a, b], rfl, h, (by show 2 < 64; decide), fun ns' p' hp hs np => ?_⟩
  have hl := hp.length_eq
  match ns', hl with
  | [x, y], _ =>
    have hx : x = a ∧ y = b ∨ x = b ∧ y = a := by
      have hm : x ∈ [a, b] := hp.mem_iff.mp (List.mem_cons_self ..)
      have h2 := List.perm_cons_erase hm
      simp only [List.mem_cons, List.not_mem_nil, or_false] at hm
      rcases hm with rfl | rfl
      · have := (List.perm_cons x).mp hp
        exact .inl ⟨rfl, by simpa using this⟩
      · have h3 : ([x, y] : List Int).Perm [x, a] := hp.trans (List.Perm.swap ..)
        have := (List.perm_cons x).mp h3
        exact .inr ⟨rfl, by simpa using this⟩
    exact q x y p' _ hx (by simpa using hs) np upd_same (same_new np)
/-! ### roots of roots -/
theorem root_root {n a b r q q' : Nat} (hr : Pm.IsRoot n a r) (hq : Pm.IsRoot r b q) (hq' : Pm.IsRoot n (a * b) q') : q = q' := by
  refine Pm.IsRoot.uniq (n := n) (k := a * b) ⟨?_, ?_⟩ hq'
  · rw [Nat.mul_comm, Nat.pow_mul]
    exact Nat.le_trans (Nat.pow_le_pow_left hq.1 a) hr.1
  · rw [Nat.mul_comm, Nat.pow_mul]
    exact Nat.lt_of_lt_of_le hr.2 (Nat.pow_le_pow_left hq.2 a)
theorem root_mono {n m k r s : Nat} (h : n ≤ m) (hr : Pm.IsRoot n k r) (hs : Pm.IsRoot m k s) : r ≤ s := by
  have := Pm.lt_of_pow_lt (Nat.lt_of_le_of_lt (Nat.le_trans hr.1 h) hs.2)
  omega
theorem root_times {n a b r s : Nat} (hr : Pm.IsRoot n a r) (hs : Pm.IsRoot (n * b ^ a) a s) : r * b ≤ s := by
  have h1 : (r * b) ^ a ≤ n * b ^ a := by
    rw [Nat.mul_pow]
    exact Nat.mul_le_mul_right _ hr.1
  have := Pm.lt_of_pow_lt (Nat.lt_of_le_of_lt h1 hs.2)
  omega
theorem root_pow {b k : Nat} (hk : 0 < k) : Pm.IsRoot (b ^ k) k b := ⟨Nat.le_refl _, Pm.pow_lt_of_lt (Nat.lt_succ_self b) hk⟩
theorem root_pred {b k : Nat} (hk : 0 < k) (hb : 0 < b) : Pm.IsRoot (b ^ k - 1) k (b - 1) := by
  have h1 := Pm.pow_lt_of_lt (show b - 1 < b by omega) hk
  have e : b - 1 + 1 = b := by omega
  refine ⟨by omega, ?_⟩
  rw [e]
  have : 0 < b ^ k := Nat.pow_pos hb
  omega
theorem root_one (n : Nat) : Pm.IsRoot n 1 n := ⟨by rw [Nat.pow_one]; exact Nat.le_refl _, by rw [Nat.pow_one]; exact Nat.lt_succ_self _⟩
theorem r_ixT0 {K : PySem.W.Frag} {p : Addr} {a b : V} {H : Hp} {Q : VK} (h : H p = some (.tup [a, b])) (q : Q a H) : rIxT K (.ref p) (.int 0) H Q := r_ixT (SqT.of h) rfl q
def spTakenR : Sp := fun vs H Q _ => ∃ (d c : Addr) (n b : Nat), vs = [.ref d, .int (b : Int)] ∧ b ≤ 10 ^ 40 ∧ DeckAt H d c n ∧ n ≤ 2 ^ 40 ∧ ∀ H', Keep d H H' → DeckAt H' d c (n + 2) → Q (.bl true) H'
def spRootsR : Sp := fun vs H Q _ => ∃ (d c : Addr) (n a b : Nat), vs = [.ref d, .int (a : Int), .int (b : Int)] ∧ a ≤ 10 ^ 40 ∧ b ≤ 10 ^ 40 ∧ DeckAt H d c n ∧ n ≤ 2 ^ 40 ∧ ∀ H', Keep d H H' → DeckAt H' d c (n + 3) → Q (.bl true) H'
end Pw

namespace Pw
open PySem PySem.Spec PyProof.Rows L2 SX TL
theorem r_rng2 {tr : TA} {σ : L2.St} {H : Hp} {R : It → Hp → Prop} (h : tr σ H fun vs H1 => ∃ i j : Int, vs = [.int i, .int j] ∧ (-(2 ^ 62) ≤ i ∧ i < 2 ^ 62 ∧ -(2 ^ 62) ≤ j ∧ j < 2 ^ 62) ∧ R (Itr i (j - i).toNat) H1) : iRng2 tr σ H R := h
theorem r_ex2 {i j : Int} {R : Int → Int → Prop} (h : R i j) : ∃ a b, [V.int i, V.int j] = [.int a, .int b] ∧ R a b := ⟨i, j, rfl, h⟩
def spIsPrime : Sp := fun vs H Q _ => ∃ n : Nat, vs = [.int (n : Int)] ∧ 2 ≤ n ∧ n ≤ 2 ^ 60 ∧ ∀ b : Bool, (b = true ↔ Pm.Prime n) → Q (.bl b) H
def spNextPrime : Sp := fun vs H Q _ => ∃ n : Nat, vs = [.int (n : Int)] ∧ 2 ≤ n ∧ n ≤ 210 ∧ ∀ p : Nat, n < p → p ≤ 211 → Pm.Prime p → (∀ q, Pm.Prime q → n < q → p ≤ q) → Q (.int (p : Int)) H
/-- base and greatest exponent -/
def GW (n b g : Nat) : Prop := (n = 0 ∧ b = 0 ∧ g = 1) ∨ (n = 1 ∧ b = 1 ∧ g = 2) ∨ (2 ≤ b ∧ Pm.NotPow b ∧ 1 ≤ g ∧ b ^ g = n)
def spGreatest : Sp := fun vs H Q _ => ∃ n : Nat, vs = [.int (n : Int)] ∧ n < 2 ^ 190 ∧ ∀ (b g : Nat) (p : Addr) (H' : Hp), GW n b g → H p = none → Same H H' → H' p = some (.tup [.int (b : Int), .int (g : Int)]) → Q (.ref p) H'
theorem prime211 : Pm.Prime 211 := Pm.prime_of_trial (by decide) fun d h2 h3 h4 => by
  have hd : d < 15 := by
    refine Nat.lt_of_not_le fun h => ?_
    have := Nat.mul_le_mul h h
    omega
  have : ∀ d, d < 15 → 2 ≤ d → ¬ d ∣ 211 := by decide
  exact this d hd h2 h4
end Pw
namespace Pw
theorem prime2 : Pm.Prime 2 := Pm.prime_of_trial (by decide) fun d h2 h3 h4 => by
  have := Nat.mul_le_mul h2 h2
  omega
end Pw
namespace Pw
open PySem PySem.Spec PyProof.Rows L2 SX TL
theorem r_rng3 {tr : TA} {σ : L2.St} {H : Hp} {R : It → Hp → Prop} (h : tr σ H fun vs H1 => ∃ (i j c : Int) (n : Nat), vs = [.int i, .int j, .int c] ∧ RgC i j c n ∧ R (Itc i c n) H1) : iRng3 tr σ H R := h
theorem r_shlN {H : Hp} {Q : VK} {i j : Int} (n k : Nat) (a : Nat) (hi : i = (n : Int)) (hj : j = (k : Int)) (ha : n < 2 ^ a) (hk : a + k ≤ 100000) (q : Q (.int ((n * 2 ^ k : Nat) : Int)) H) : rI CShl (fun i j => V.int (i * 2 ^ j.toNat)) (.int i) (.int j) H Q := by
  subst hi
  subst hj
  refine r_I (shl_ok (n := a) (by rw [Int.natAbs_natCast]; exact ha) (by omega)) ?_
  rw [Int.toNat_natCast]
  have e : ((n : Int) * 2 ^ k) = ((n * 2 ^ k : Nat) : Int) := by push_cast; rfl
  rw [e]
  exact q
def spLawRoot : Sp := fun vs H Q _ => ∃ n e : Nat, vs = [.int (n : Int), .int (e : Int)] ∧ n < 2 ^ 140 ∧ 1 ≤ e ∧ e ≤ 140 ∧ ∀ r : Nat, Pm.IsRoot n e r → Q (.int (r : Int)) H
def spLawDue : Sp := fun vs H Q _ => ∃ n : Nat, vs = [.int (n : Int)] ∧ n < 2 ^ 133 ∧ ∀ (b g : Nat) (p : Addr) (H' : Hp), GW n b g → H p = none → Same H H' → H' p = some (.tup [.int (b : Int), .int (g : Int)]) → Q (.ref p) H'
theorem GW.uniq {n b g b' g' : Nat} (h : GW n b g) (h' : GW n b' g') : b = b' ∧ g = g' := by
  rcases h with ⟨rfl, rfl, rfl⟩ | ⟨rfl, rfl, rfl⟩ | ⟨b2, np, g1, e⟩
  · rcases h' with ⟨_, rfl, rfl⟩ | ⟨z, _⟩ | ⟨b2, _, _, e⟩
    · exact ⟨rfl, rfl⟩
    · omega
    · have := Nat.pow_pos (n := g') (show 0 < b' by omega)
      omega
  · rcases h' with ⟨z, _⟩ | ⟨_, rfl, rfl⟩ | ⟨b2, _, g1, e⟩
    · omega
    · exact ⟨rfl, rfl⟩
    · have := Nat.one_lt_pow (show g' ≠ 0 by omega) (show 1 < b' by omega)
      omega
  · rcases h' with ⟨rfl, _, _⟩ | ⟨rfl, _, _⟩ | ⟨b2', np', g1', e'⟩
    · have := Nat.pow_pos (n := g) (show 0 < b by omega)
      omega
    · have := Nat.one_lt_pow (show g ≠ 0 by omega) (show 1 < b by omega)
      omega
    · obtain ⟨d1, e1⟩ := Pm.ways_of_pow b2 np g1 g1' (x := b') (k := g') (by rw [e, e'])
      obtain ⟨d2, e2⟩ := Pm.ways_of_pow b2' np' g1' g1 (x := b) (k := g) (by rw [e, e'])
      have hg : g = g' := Nat.dvd_antisymm d2 d1
      subst hg
      rw [Nat.div_self (by omega), Nat.pow_one] at e1
      exact ⟨e1.symm, rfl⟩
theorem pow_base2 {c e n : Nat} (he : 1 ≤ e) (hn : 2 ≤ n) (h : c ^ e = n) : 2 ≤ c := by
  refine Nat.le_of_not_lt fun z => ?_
  have : c = 0 ∨ c = 1 := by omega
  rcases this with rfl | rfl
  · rw [Nat.zero_pow (by omega)] at h
    omega
  · rw [Nat.one_pow] at h
    omega
end Pw
namespace Pw
open PySem PySem.Spec PyProof.Rows L2 SX TL
theorem r_yes {σ : L2.St} {H : Hp} {R : Bool → Hp → Prop} (h : R true H) : tYes σ H R := h
/-- pairs of a base and its greatest exponent, beside the numbers -/
structure Dues (H : Hp) (D : Addr) (xs : List Nat) (m : Nat) : Prop where
  ex : ∃ ps : List Addr, H D = some (.lst (ps.map V.ref)) ∧ ps.length = m ∧ ∀ (i n : Nat) (p : Addr), xs[i]? = some n → ps[i]? = some p → ∃ b g : Nat, GW n b g ∧ H p = some (.tup [.int (b : Int), .int (g : Int)])
theorem Dues.same {H H' : Hp} {D : Addr} {xs : List Nat} {m : Nat} (d : Dues H D xs m) (s : Same H H') : Dues H' D xs m := by
  obtain ⟨ps, h1, h2, h3⟩ := d.ex
  exact ⟨ps, s _ _ h1, h2, fun i n p a b => let ⟨x, g, h4, h5⟩ := h3 i n p a b; ⟨x, g, h4, s _ _ h5⟩⟩
end Pw
namespace Pw
theorem notPow_ten : Pm.NotPow 10 := fun c k hk e => by
  have c2 : 2 ≤ c := pow_base2 (by omega) (by decide) e
  have h1 : c ^ 2 ≤ c ^ k := Nat.pow_le_pow_right (by omega) hk
  have c3 : c < 4 := by
    refine Nat.lt_of_not_le fun h => ?_
    have := Nat.pow_le_pow_left h 2
    omega
  have hk4 : k < 4 := by
    refine Nat.lt_of_not_le fun h => ?_
    have h2 := Nat.pow_le_pow_left c2 k
    have h3 : (2 : Nat) ^ 4 ≤ 2 ^ k := Nat.pow_le_pow_right (by decide) h
    omega
  have hc : c = 2 ∨ c = 3 := by omega
  have hkk : k = 2 ∨ k = 3 := by omega
  rcases hc with rfl | rfl <;> rcases hkk with rfl | rfl <;> exact absurd e (by decide)
theorem gw_ten : GW 10000000000000000000000000000000000000000 10 40 := .inr (.inr ⟨by decide, notPow_ten, by decide, by decide⟩)
end Pw

namespace Pw
open PySem PySem.Spec PyProof.Rows L2 SX TL
/-! ### x in t, t a tuple of data -/
def rInDT (K : PySem.W.Frag) : R2 := fun x y H Q => ∃ d ds, Dp K H x d ∧ Dp K H y (.tuple ds) ∧ SeqAt.shaped d = true ∧ SeqAt.shaped (.tuple ds) = true ∧ Q (.bl (ds.any fun z => PyData.eqv z d)) H
def rNotInDT (K : PySem.W.Frag) : R2 := fun x y H Q => ∃ d ds, Dp K H x d ∧ Dp K H y (.tuple ds) ∧ SeqAt.shaped d = true ∧ SeqAt.shaped (.tuple ds) = true ∧ Q (.bl (!ds.any fun z => PyData.eqv z d)) H
theorem room65 {k : Nat} {A : Around} (hr : Room k A) : A.units + 65 < cLine := by have := hr.un; omega
theorem op_inDT {X : Cx} {k : Nat} (hr : Room k X.A) : OpR X (compareOp .In) (rInDT X.K) := by
  intro pins s σ H x y v u Q I rx ry h
  obtain ⟨d, ds, hd, he, sd, se, q⟩ := h
  obtain ⟨as, r1⟩ := Dp.reads I d x v hd rx
  obtain ⟨bs, r2⟩ := Dp.reads I (.tuple ds) y u he ry
  exact SeqAt.in_tuple_reads r2 r1 (SeqAt.canLay_of_shaped se) (SeqAt.canLay_of_shaped sd) (room_in_shaped sd (room65 hr)) ⟨.bl _, H, I, rfl, q⟩
theorem op_notInDT {X : Cx} {k : Nat} (hr : Room k X.A) : OpR X (compareOp .NotIn) (rNotInDT X.K) := by
  intro pins s σ H x y v u Q I rx ry h
  obtain ⟨d, ds, hd, he, sd, se, q⟩ := h
  obtain ⟨as, r1⟩ := Dp.reads I d x v hd rx
  obtain ⟨bs, r2⟩ := Dp.reads I (.tuple ds) y u he ry
  exact SeqAt.notIn_tuple_reads r2 r1 (SeqAt.canLay_of_shaped se) (SeqAt.canLay_of_shaped sd) (room_in_shaped sd (room65 hr)) ⟨.bl _, H, I, rfl, q⟩
def rTupleOf (K : PySem.W.Frag) : List V → Hp → VK → Prop := fun xs H Q => ∃ p ys, xs = [.ref p] ∧ ((SqL K H p ys ∧ ∀ l, H l = none → Q (.ref l) (upd H l (.tup ys))) ∨ (SqT K H p ys ∧ Q (.ref p) H))
theorem cr_tupleOf {X : Cx} : CallR X (.type "tuple") (rTupleOf X.K) := call_tuple_of
def rListOf (K : PySem.W.Frag) : List V → Hp → VK → Prop := fun xs H Q => ∃ p ys, xs = [.ref p] ∧ (SqL K H p ys ∨ SqT K H p ys) ∧ ∀ l, H l = none → Q (.ref l) (upd H l (.lst ys))
theorem cr_listOf {X : Cx} : CallR X (.type "list") (rListOf X.K) := call_list_of
theorem r_tupleOf {K : PySem.W.Frag} {H : Hp} {Q : VK} {p : Addr} {ys : List V} (h : SqL K H p ys) (q : ∀ l H', H l = none → H' l = some (.tup ys) → Same H H' → Q (.ref l) H') : rTupleOf K [.ref p] H Q := ⟨p, ys, rfl, .inl ⟨h, fun l hl => q l _ hl upd_same (same_new hl)⟩⟩
theorem r_listOfT {K : PySem.W.Frag} {H : Hp} {Q : VK} {p : Addr} {ys : List V} (h : SqT K H p ys) (q : NewC Q ys H) : rListOf K [.ref p] H Q := ⟨p, ys, rfl, .inr h, q⟩
/-! ### pairs of naturals -/
def vp (w : Nat × Nat) : HO := .tup [.int (w.1 : Int), .int (w.2 : Int)]
def dpr (w : Nat × Nat) : PyData := .tuple [.int (w.1 : Int), .int (w.2 : Int)]
/-- the rows at ps are the pairs ws -/
def PairsAt (H : Hp) (ps : List Addr) (ws : List (Nat × Nat)) : Prop := ps.length = ws.length ∧ ∀ (i : Nat) (a : Addr) (w : Nat × Nat), ps[i]? = some a → ws[i]? = some w → H a = some (vp w)
theorem PairsAt.same {H H' : Hp} {ps : List Addr} {ws : List (Nat × Nat)} (h : PairsAt H ps ws) (s : Same H H') : PairsAt H' ps ws := ⟨h.1, fun i a w x y => s _ _ (h.2 i a w x y)⟩
theorem PairsAt.nil {H : Hp} : PairsAt H [] [] := ⟨rfl, fun i a w h => by simp at h⟩
theorem PairsAt.push {H' : Hp} {ps : List Addr} {ws : List (Nat × Nat)} {p : Addr} {w : Nat × Nat} (h : PairsAt H' ps ws) (hp : H' p = some (vp w)) : PairsAt H' (ps ++ [p]) (ws ++ [w]) := by
  refine ⟨by rw [List.length_append, List.length_append, h.1]; rfl, fun i a w' x y => ?_⟩
  rcases Nat.lt_or_ge i ps.length with z | z
  · rw [List.getElem?_append_left z] at x
    rw [List.getElem?_append_left (by rw [← h.1]; exact z)] at y
    exact h.2 i a w' x y
  · rw [List.getElem?_append_right z] at x
    rw [List.getElem?_append_right (by rw [← h.1]; exact z), ← h.1] at y
    have hi : i - ps.length = 0 := by
      have := (List.getElem?_eq_some_iff.mp x).1
      simp at this
      omega
    rw [hi] at x y
    cases x
    cases y
    exact hp
theorem PairsAt.upd {H : Hp} {ps : List Addr} {ws : List (Nat × Nat)} {l : Addr} {xs : List V} {o : HO} (h : PairsAt H ps ws) (hl : H l = some (.lst xs)) : PairsAt (L2.upd H l o) ps ws :=
  ⟨h.1, fun i a w x y => by
    have := h.2 i a w x y
    rw [upd_ne (ne_of this hl (by intro z; cases z))]
    exact this⟩
theorem PairsAt.tail {H : Hp} {p : Addr} {ps : List Addr} {w : Nat × Nat} {ws : List (Nat × Nat)} (h : PairsAt H (p :: ps) (w :: ws)) : H p = some (vp w) ∧ PairsAt H ps ws :=
  ⟨h.2 0 p w rfl rfl, by have := h.1; simpa using this, fun i a w' x y => h.2 (i + 1) a w' (by simpa using x) (by simpa using y)⟩
theorem PairsAt.dp {K : PySem.W.Frag} {H : Hp} : ∀ {ps : List Addr} {ws : List (Nat × Nat)}, PairsAt H ps ws → DpAll K H (ps.map V.ref) (ws.map dpr)
  | [], [], _ => .nil
  | [], _ :: _, h => by have := h.1; simp at this
  | _ :: _, [], h => by have := h.1; simp at this
  | p :: ps, w :: ws, h => .cons (.tup (SqT.of h.tail.1) (.cons (.int _) (.cons (.int _) .nil))) (PairsAt.dp h.tail.2)
theorem dpr_lay (w : Nat × Nat) : (dpr w).canLay0 = true := by simp [dpr, PyData.canLay0, PyData.canLayAll0]
theorem dpr_depth (w : Nat × Nat) : (dpr w).depth = 1 := by simp [dpr, PyData.depth, PyData.depthAll]
theorem dprs_lay : ∀ ws : List (Nat × Nat), PyData.canLayAll0 (ws.map dpr) = true
  | [] => by simp only [List.map_nil, PyData.canLayAll0]
  | w :: ws => by simp only [List.map_cons, PyData.canLayAll0, dpr_lay, dprs_lay ws, Bool.and_self]
theorem dprs_depth : ∀ ws : List (Nat × Nat), PyData.depthAll (ws.map dpr) ≤ 1
  | [] => by simp only [List.map_nil, PyData.depthAll]; omega
  | w :: ws => by
    simp only [List.map_cons, PyData.depthAll, dpr_depth]
    have := dprs_depth ws
    omega
theorem dpr_shaped (w : Nat × Nat) : SeqAt.shaped (dpr w) = true := by
  unfold SeqAt.shaped
  rw [dpr_lay, dpr_depth]
  rfl
theorem dprs_shapedT (ws : List (Nat × Nat)) : SeqAt.shaped (.tuple (ws.map dpr)) = true := by
  unfold SeqAt.shaped
  have h := dprs_depth ws
  simp only [PyData.canLay0, PyData.depth, dprs_lay, Bool.true_and, decide_eq_true_eq]
  exact decide_eq_true (Nat.le_trans (Nat.succ_le_succ h) (show 2 ≤ 64 by decide))
theorem dprs_shapedL (ws : List (Nat × Nat)) : SeqAt.shaped (.list (ws.map dpr)) = true := by
  unfold SeqAt.shaped
  have h := dprs_depth ws
  simp only [PyData.canLay0, PyData.depth, dprs_lay, Bool.true_and, decide_eq_true_eq]
  exact decide_eq_true (Nat.le_trans (Nat.succ_le_succ h) (show 2 ≤ 64 by decide))
theorem dpr_eqv (z w : Nat × Nat) : PyData.eqv (dpr z) (dpr w) = decide (z = w) := by
  have h := eqv_ints [(z.1 : Int), (z.2 : Int)] [(w.1 : Int), (w.2 : Int)]
  have e : PyData.eqv (dpr z) (dpr w) = PyData.eqvAll (List.map PyData.int [(z.1 : Int), (z.2 : Int)]) (List.map PyData.int [(w.1 : Int), (w.2 : Int)]) := by
    simp only [dpr, PyData.eqv, List.map_cons, List.map_nil]
  rw [e, h]
  obtain ⟨a, b⟩ := z
  obtain ⟨c, d⟩ := w
  refine decide_eq_decide.mpr ⟨fun z => ?_, fun z => by cases z; rfl⟩
  have z1 : (a : Int) = c := (List.cons.inj z).1
  have z2 : (b : Int) = d := (List.cons.inj (List.cons.inj z).2).1
  rw [show a = c by omega, show b = d by omega]
theorem dprs_eqv : ∀ zs ws : List (Nat × Nat), PyData.eqvAll (zs.map dpr) (ws.map dpr) = decide (zs = ws)
  | [], [] => by simp [PyData.eqvAll]
  | [], _ :: _ => by simp [PyData.eqvAll]
  | _ :: _, [] => by simp [PyData.eqvAll]
  | z :: zs, w :: ws => by
    simp only [List.map_cons, PyData.eqvAll, dpr_eqv, dprs_eqv zs ws]
    by_cases h1 : z = w <;> by_cases h2 : zs = ws <;> simp [h1, h2]
section
variable {K : PySem.W.Frag} {H : Hp} {Q : VK} {p q : Addr} {ps qs : List Addr} {zs ws : List (Nat × Nat)}
theorem r_eqPT (hp : SqT K H p (ps.map V.ref)) (hz : PairsAt H ps zs) (hq : SqT K H q (qs.map V.ref)) (hw : PairsAt H qs ws) (k : Q (.bl (decide (zs = ws))) H) : rEqD K (.ref p) (.ref q) H Q :=
  ⟨.tuple (zs.map dpr), .tuple (ws.map dpr), .tup hp hz.dp, .tup hq hw.dp, dprs_shapedT zs, dprs_shapedT ws, by rw [show PyData.eqv (.tuple (zs.map dpr)) (.tuple (ws.map dpr)) = decide (zs = ws) from by simp only [PyData.eqv, dprs_eqv]]; exact k⟩
theorem r_nePT (hp : SqT K H p (ps.map V.ref)) (hz : PairsAt H ps zs) (hq : SqT K H q (qs.map V.ref)) (hw : PairsAt H qs ws) (k : Q (.bl (!decide (zs = ws))) H) : rNeD K (.ref p) (.ref q) H Q :=
  ⟨.tuple (zs.map dpr), .tuple (ws.map dpr), .tup hp hz.dp, .tup hq hw.dp, dprs_shapedT zs, dprs_shapedT ws, by rw [show PyData.eqv (.tuple (zs.map dpr)) (.tuple (ws.map dpr)) = decide (zs = ws) from by simp only [PyData.eqv, dprs_eqv]]; exact k⟩
theorem r_eqPL (hp : SqL K H p (ps.map V.ref)) (hz : PairsAt H ps zs) (hq : SqL K H q (qs.map V.ref)) (hw : PairsAt H qs ws) (k : Q (.bl (decide (zs = ws))) H) : rEqD K (.ref p) (.ref q) H Q :=
  ⟨.list (zs.map dpr), .list (ws.map dpr), .lst hp hz.dp, .lst hq hw.dp, dprs_shapedL zs, dprs_shapedL ws, by rw [show PyData.eqv (.list (zs.map dpr)) (.list (ws.map dpr)) = decide (zs = ws) from by simp only [PyData.eqv, dprs_eqv]]; exact k⟩
theorem any_dpr (w : Nat × Nat) : ∀ ws : List (Nat × Nat), ((ws.map dpr).any fun z => PyData.eqv z (dpr w)) = decide (w ∈ ws)
  | [] => by simp
  | z :: ws => by
    rw [List.map_cons, List.any_cons, dpr_eqv, any_dpr w ws]
    by_cases h1 : z = w <;> by_cases h2 : w ∈ ws <;> simp [h1, h2]
    exact fun e => h1 e.symm
theorem r_inPT {w : Nat × Nat} (hx : H p = some (vp w)) (hq : SqT K H q (qs.map V.ref)) (hw : PairsAt H qs ws) (k : Q (.bl (decide (w ∈ ws))) H) : rInDT K (.ref p) (.ref q) H Q :=
  ⟨dpr w, ws.map dpr, .tup (SqT.of hx) (.cons (.int _) (.cons (.int _) .nil)), .tup hq hw.dp, dpr_shaped w, dprs_shapedT ws, by rw [any_dpr]; exact k⟩
theorem r_ninPT {w : Nat × Nat} (hx : H p = some (vp w)) (hq : SqT K H q (qs.map V.ref)) (hw : PairsAt H qs ws) (k : Q (.bl (!decide (w ∈ ws))) H) : rNotInDT K (.ref p) (.ref q) H Q :=
  ⟨dpr w, ws.map dpr, .tup (SqT.of hx) (.cons (.int _) (.cons (.int _) .nil)), .tup hq hw.dp, dpr_shaped w, dprs_shapedT ws, by rw [any_dpr]; exact k⟩
end
/-! ### all ways -/
/-- the divisors of g among 2 .. i + 1 -/
def divs (g i : Nat) : List Nat := ((List.range i).map (2 + ·)).filter fun k => g % k == 0
def waysL (b g : Nat) : List (Nat × Nat) := (divs g (g - 1)).map fun k => (b ^ (g / k), k)
theorem divs_succ (g i : Nat) : divs g (i + 1) = if g % (2 + i) = 0 then divs g i ++ [2 + i] else divs g i := by
  unfold divs
  rw [List.range_succ, List.map_append, List.filter_append]
  by_cases h : g % (2 + i) = 0
  · rw [if_pos h]
    simp [h]
  · rw [if_neg h]
    simp [h]
theorem mem_divs {g i k : Nat} : k ∈ divs g i ↔ 2 ≤ k ∧ k < 2 + i ∧ k ∣ g := by
  unfold divs
  rw [List.mem_filter, List.mem_map]
  constructor
  · rintro ⟨⟨j, hj, rfl⟩, h⟩
    rw [List.mem_range] at hj
    exact ⟨by omega, by omega, Nat.dvd_of_mod_eq_zero (by simpa using h)⟩
  · rintro ⟨h1, h2, h3⟩
    exact ⟨⟨k - 2, by rw [List.mem_range]; omega, by omega⟩, by simpa using Nat.mod_eq_zero_of_dvd h3⟩
theorem divs_len (g i : Nat) : (divs g i).length ≤ i := by
  unfold divs
  have h := List.length_filter_le (fun k => g % k == 0) ((List.range i).map (2 + ·))
  rw [List.length_map, List.length_range] at h
  exact h
def spIsPower : Sp := fun vs H Q _ => ∃ n : Nat, vs = [.int (n : Int)] ∧ n < 2 ^ 190 ∧ ∀ (b g : Nat) (H' : Hp), GW n b g → Same H H' → Q (.bl (decide (1 < g))) H'
def spWays : Sp := fun vs H Q _ => ∃ n : Nat, vs = [.int (n : Int)] ∧ n < 2 ^ 190 ∧ ∀ (b g : Nat) (p : Addr) (ps : List Addr) (H' : Hp), GW n b g → g ≤ 200 → H p = none → Same H H' → H' p = some (.tup (ps.map V.ref)) → PairsAt H' ps (waysL b g) → Q (.ref p) H'
theorem GW.g_le {n b g : Nat} (h : GW n b g) (hn : n < 2 ^ 190) : g ≤ 190 := by
  rcases h with ⟨_, _, rfl⟩ | ⟨_, _, rfl⟩ | ⟨b2, _, _, e⟩
  · decide
  · decide
  · refine Nat.le_of_not_lt fun z => ?_
    have h1 : 2 ^ g ≤ b ^ g := Nat.pow_le_pow_left b2 g
    have h2 : (2 : Nat) ^ 190 ≤ 2 ^ g := Nat.pow_le_pow_right (by decide) (by omega)
    omega
theorem GW.b_lt {n b g : Nat} (h : GW n b g) (hn : n < 2 ^ 190) : b < 2 ^ 190 := by
  rcases h with ⟨_, rfl, _⟩ | ⟨_, rfl, _⟩ | ⟨b2, _, g1, e⟩
  · exact Nat.pow_pos (by decide)
  · exact Nat.one_lt_two_pow (by decide)
  · have : b ≤ b ^ g := Nat.le_self_pow (by omega) b
    omega
end Pw
namespace Pw
open PySem PySem.Spec PyProof.Rows L2 SX TL
theorem waysL_len (b g : Nat) : (waysL b g).length ≤ g := by
  unfold waysL
  rw [List.length_map]
  have := divs_len g (g - 1)
  omega
theorem waysL_mem {b g : Nat} {w : Nat × Nat} : w ∈ waysL b g ↔ 2 ≤ w.2 ∧ w.2 < 2 + (g - 1) ∧ w.2 ∣ g ∧ w.1 = b ^ (g / w.2) := by
  unfold waysL
  rw [List.mem_map]
  constructor
  · rintro ⟨k, hk, rfl⟩
    obtain ⟨h1, h2, h3⟩ := mem_divs.mp hk
    exact ⟨h1, h2, h3, rfl⟩
  · rintro ⟨h1, h2, h3, h4⟩
    exact ⟨w.2, mem_divs.mpr ⟨h1, h2, h3⟩, by rw [← h4]⟩
theorem waysL_empty {b g : Nat} : waysL b g = [] ↔ g ≤ 1 := by
  constructor
  · intro h
    refine Nat.le_of_not_lt fun z => ?_
    have : (b ^ (g / g), g) ∈ waysL b g := waysL_mem.mpr ⟨by omega, by omega, Nat.dvd_refl g, rfl⟩
    rw [h] at this
    cases this
  · intro h
    cases e : waysL b g with
    | nil => rfl
    | cons w r =>
      have : w ∈ waysL b g := by rw [e]; exact List.mem_cons_self ..
      obtain ⟨h1, h2, _⟩ := waysL_mem.mp this
      omega
theorem GW.pow {n b g : Nat} (h : GW n b g) : b ^ g = n := by
  rcases h with ⟨rfl, rfl, rfl⟩ | ⟨rfl, rfl, rfl⟩ | ⟨_, _, _, e⟩
  · rfl
  · rfl
  · exact e
theorem GW.pos {n b g : Nat} (h : GW n b g) : 1 ≤ g := by
  rcases h with ⟨rfl, rfl, rfl⟩ | ⟨rfl, rfl, rfl⟩ | ⟨_, _, e, _⟩ <;> omega
theorem r_iteB {c A B : Prop} [Decidable c] {b : Bool} (hb : b = decide c) (h1 : c → A) (h2 : ¬ c → B) : if b = true then A else B := by
  subst hb
  exact r_ite h1 h2
def spNumR : Sp := fun vs H Q _ => ∃ n : Nat, vs = [.int (n : Int)] ∧ n ≤ 10 ^ 40 ∧ ∀ H', Same H H' → Q (.bl true) H'
def spTwoR : Sp := fun vs H Q _ => ∃ (d c : Addr) (n : Nat), vs = [.ref d] ∧ DeckAt H d c n ∧ n ≤ 2 ^ 40 ∧ ∀ H', Keep d H H' → DeckAt H' d c (n + 4) → Q (.bl true) H'
end Pw

namespace SrtO
open PySem PyProof.Rows Srt
section
variable {prog : Program} {w : World} {A : Around} {E : Value → Shared → Prop} {s : Shared}
theorem collect_tup {l : Addr} {vs : List Value} {Q : List Value → Shared → Prop} (hl : IsTup s.heap l vs.toArray)
    (h : Q vs { s with heap := (s.heap.push (seqObj "list" #[] 0)).update s.heap.objs.size (Obj.mapSeq (· ++ vs.toArray)) }) (hsz : vs.length ≤ sizeLine) :
    wpAny (model prog w) A (collect (.ref l)) Q E s := by
  obtain ⟨o, ho, hc, n, hd⟩ := id hl
  unfold collect
  refine wpAny_bind (wpAny_runValue (codeAny_builtin F.entry_proto_collect ?_))
  show wpAny _ _ (do again (.builtin "list.__iadd__" ⟨[← newList [], .ref l], []⟩)) _ _ s
  refine wpAny_bind (wpAny_newList (wpAny_pure ⟨Code.quiet_builtin _ (by decide +kernel), codeAny_builtin F.entry_list_iadd ?_⟩))
  show wpAny _ _ (Builtin.List.listExtendWith (.ref s.heap.objs.size) (.ref l) (.ref s.heap.objs.size)) _ _ { s with heap := s.heap.push (seqObj "list" #[] 0) }
  unfold Builtin.List.listExtendWith
  have ho' : (s.heap.push (seqObj "list" #[] 0)).get? l = some o := Heap.get?_push_of_some _ ho
  refine wpAny_bind (wpAny_typeOf (T := "tuple") ⟨o, ho', hc⟩ ?_)
  have ht : (Value.type "tuple" == Value.type "tuple") = true := by rfl
  rw [if_pos (by rw [ht]; simp)]
  refine wpAny_bind (listItems_at ho' hd ?_)
  refine wpAny_bind (listItems_at (xs := #[]) (n := 0) (Heap.get?_push_size _ rfl) rfl ?_)
  rw [if_neg (by simp)]
  refine wpAny_bind (listUpdate_at (xs := #[]) (n := 0) (Heap.get?_push_size _ rfl) rfl ?_ (Nat.zero_le _) (by show (#[] ++ vs.toArray).size ≤ sizeLine + 1; simp only [Array.size_append, List.size_toArray, List.length_nil]; omega))
  refine wpAny_pure ?_
  show wpAny (model prog w) A (do
      let o ← load s.heap.objs.size
      match o.data with
      | .seq xs _ => pure xs.toList
      | _ => unsupported "internal:collect") Q E { s with heap := (s.heap.push (seqObj "list" #[] 0)).update s.heap.objs.size (Obj.mapSeq (· ++ vs.toArray)) }
  refine wpAny_bind (wpAny_load (get?_update_seq (Heap.get?_push_size _ rfl) _) ?_)
  show wpAny _ _ (pure ((#[] : Array Value) ++ vs.toArray).toList) Q E _
  rw [show ((#[] : Array Value) ++ vs.toArray).toList = vs by simp]
  exact wpAny_pure h
theorem sorted_ordT {l : Addr} {vs : List Value} {ltv : Value → Value → Bool} {Q : Value → Shared → Prop} (O : Swo ltv) (hl : IsTup s.heap l vs.toArray) (hz : vs.length ≤ sizeLine)
    (hS : 2 ≤ vs.length → ∀ (h₁ : Heap) (a : Addr), h₁.get? a = some (seqObj "list" vs.toArray 0) → (∀ b o, s.heap.get? b = some o → b ≠ a ∧ h₁.get? b = some o) → SortableO prog w A.in1.in1 { s with heap := h₁ } a vs ltv)
    (h : ∀ out : List Value, Srtd ltv out → Stb ltv out vs → Q (.ref (s.heap.objs.size + 1)) { s with heap := sortedAll s.heap vs out.toArray }) :
    wpAny (model prog w) A (call (.builtin "sorted") [.ref l]) Q E s := by
  refine Calls.call_function_entry kind_sorted plain_sorted entry_sorted (args_sorted1 _) ?_
  unfold Builtin.«sorted»
  refine wpAny_bind (m := checkCount "sorted" 1 1 _) (wpAny_pure ?_)
  refine wpAny_bind (collect_tup hl ?_ hz)
  refine wpAny_bind (wpAny_newList ?_ hz)
  have hsz : ((s.heap.push (seqObj "list" #[] 0)).update s.heap.objs.size (Obj.mapSeq (· ++ vs.toArray))).objs.size = s.heap.objs.size + 1 := by
    rw [Heap.size_update, size_push']
  have hoL : (((s.heap.push (seqObj "list" #[] 0)).update s.heap.objs.size (Obj.mapSeq (· ++ vs.toArray))).push (seqObj "list" vs.toArray 0)).get? (s.heap.objs.size + 1) = some (seqObj "list" vs.toArray 0) := by
    rw [← hsz]; exact Heap.get?_push_size _ rfl
  have keep : ∀ b o, s.heap.get? b = some o → b ≠ s.heap.objs.size + 1 ∧ (((s.heap.push (seqObj "list" #[] 0)).update s.heap.objs.size (Obj.mapSeq (· ++ vs.toArray))).push (seqObj "list" vs.toArray 0)).get? b = some o := fun b o q => by
    have hlt : b < s.heap.objs.size := Heap.lt_size q
    refine ⟨Nat.ne_of_lt (Nat.lt_succ_of_lt hlt), Heap.get?_push_of_some _ ?_⟩
    rw [Heap.get?_update_ne _ _ _ _ (Nat.ne_of_lt hlt)]
    exact Heap.get?_push_of_some _ q
  show wpAny _ _ _ _ _ { s with heap := ((s.heap.push (seqObj "list" #[] 0)).update s.heap.objs.size (Obj.mapSeq (· ++ vs.toArray))).push (seqObj "list" vs.toArray 0) }
  rw [hsz]
  refine wpAny_bind (wpAny_holding (wpAny_call_entry slot_list_sort ⟨_, hoL, rfl⟩ entry_list_sort (list_sort_ord O hoL hz (fun h2 => hS h2 _ _ hoL keep) fun out hs hb => ⟨_, rfl, ?_⟩) (args_list_sort _)))
  exact wpAny_pure ⟨_, rfl, h out hs hb⟩
theorem sorted_pairsOT {l : Addr} {vs : List Value} {k : Value → Int × Int} {Q : Value → Shared → Prop} (hl : IsTup s.heap l vs.toArray) (hz : vs.length ≤ sizeLine) (hp : ∀ v ∈ vs, IsPair s.heap v (k v).1 (k v).2)
    (h : ∀ (h' : Heap) (d : Addr) (out : List Value), Srtd (fun v u => lexB (k v) (k u)) out → Stb (fun v u => lexB (k v) (k u)) out vs → (∀ b o, s.heap.get? b = some o → h'.get? b = some o) → s.heap.objs.size ≤ d → (∃ n, h'.get? d = some (seqObj "list" out.toArray n)) → Q (.ref d) { s with heap := h' }) :
    wpAny (model prog w) A (call (.builtin "sorted") [.ref l]) Q E s := by
  refine sorted_ordT (swo_lex k) hl hz (fun h2 h₁ a ha kk => ?_) fun out hs hb => ?_
  · refine pairs_sortableO (s := { s with heap := h₁ }) (by omega) (fun v hm => (hp v hm).keeps fun b o e _ => (kk b o e).2) fun o e => ?_
    have e' : some o = some (seqObj "list" vs.toArray 0) := e.symm.trans ha
    cases e'
    intro c
    exact absurd (Value.type.inj c) (by decide)
  · exact h _ _ out hs hb (fun b o e => sortedAll_old e) (Nat.le_succ _) (sortedAll_at s.heap vs out.toArray)
end
end SrtO

namespace Pw
open PySem PySem.Spec PyProof.Rows L2 SX TL
/-! ### sorted of a tuple of pairs -/
def rSortedPT (K : PySem.W.Frag) : List V → Hp → VK → Prop := fun vs H Q => ∃ (a : Addr) (xs : List V) (k : V → Int × Int), vs = [V.ref a] ∧ SqT K H a xs ∧ (∀ x ∈ xs, ∃ t, x = V.ref t ∧ H t = some (.tup [.int (k x).1, .int (k x).2])) ∧
  ∀ ys p, SrtO.Srtd (ltP k) ys → SrtO.Stb (ltP k) ys xs → H p = none → Q (.ref p) (upd H p (.lst ys))
theorem cr_sortedPT {X : Cx} : CallR X (.builtin "sorted") (rSortedPT X.K) := by
  intro pins s σ H vs us Q I r h
  obtain ⟨a, xs, k, rfl, hs, hx, q⟩ := h
  obtain ⟨its, rv, hl, hz⟩ := I.tuple hs
  obtain ⟨u, rfl, ru⟩ := vals1 r
  obtain rfl : u = Value.ref a := ru
  obtain ⟨e1, e2⟩ := refs_back rv fun x m => by
    obtain ⟨t, e, _⟩ := hx x m
    exact ⟨t, e⟩
  refine SrtO.sorted_pairsOT (k := fun u => k (backV u)) hl (by rw [← rv.length]; exact hz) (fun v hv => ?_) fun h' d out h1 h2 kp hd hn => ?_
  · obtain ⟨t, rfl⟩ := e2 v hv
    have hm : V.ref t ∈ xs := by rw [e1]; exact List.mem_map.mpr ⟨_, hv, rfl⟩
    obtain ⟨t', e, ht⟩ := hx _ hm
    cases e
    obtain ⟨_, its2, r2, o, ho, hc, n, hd⟩ := I.hok _ _ ht
    obtain ⟨u1, u2, rfl, ri, rj⟩ := vals2 r2
    obtain ⟨t1, rfl⟩ := ri
    obtain ⟨t2, rfl⟩ := rj
    exact ⟨t, o, t1, t2, n, rfl, ho, hc, hd⟩
  · have h3 : ∀ u ∈ out, ∃ a, u = Value.ref a := fun u hu => e2 u (h2.perm.mem_iff.mp hu)
    obtain ⟨n, hn⟩ := hn
    have hb : SrtO.Stb (ltP k) (out.map backV) xs := by
      rw [e1]
      exact SrtO.Stb.map (ltP_swo k) backV h2
    refine ⟨.ref d, upd H d (.lst (out.map backV)), I.laid (t' := s.toks) kp hd ⟨?_, out, n, vals_back h3, hn⟩, rfl, q _ d (SrtO.srtd_map h1) hb (I.hok.fresh hd)⟩
    rw [hb.len]
    exact hz
/-- what stands at a place, as a pair -/
def kyH (H : Hp) : V → Int × Int
  | .ref a => match H a with
    | some (.tup [.int i, .int j]) => (i, j)
    | _ => (0, 0)
  | _ => (0, 0)
def kyN (H : Hp) (v : V) : Nat × Nat := ((kyH H v).1.toNat, (kyH H v).2.toNat)
theorem kyH_of {H : Hp} {a : Addr} {w : Nat × Nat} (h : H a = some (vp w)) : kyH H (.ref a) = ((w.1 : Int), (w.2 : Int)) := by
  show (match H a with
    | some (.tup [.int i, .int j]) => (i, j)
    | _ => ((0 : Int), (0 : Int))) = _
  rw [h]
  rfl
theorem kyN_of {H : Hp} {a : Addr} {w : Nat × Nat} (h : H a = some (vp w)) : kyN H (.ref a) = w := by
  unfold kyN
  rw [kyH_of h]
  rfl
theorem PairsAt.keys {H : Hp} : ∀ {ps : List Addr} {ws : List (Nat × Nat)}, PairsAt H ps ws → (ps.map V.ref).map (kyN H) = ws
  | [], [], _ => rfl
  | [], _ :: _, h => by have := h.1; simp at this
  | _ :: _, [], h => by have := h.1; simp at this
  | p :: ps, w :: ws, h => by
    rw [List.map_cons, List.map_cons, kyN_of h.tail.1, PairsAt.keys h.tail.2]
theorem PairsAt.mem {H : Hp} : ∀ {ps : List Addr} {ws : List (Nat × Nat)}, PairsAt H ps ws → ∀ a ∈ ps, ∃ w, H a = some (vp w)
  | [], _, _, a, m => by cases m
  | _ :: _, [], h, _, _ => by have := h.1; simp at this
  | p :: ps, w :: ws, h, a, m => by
    rcases List.mem_cons.mp m with rfl | m
    · exact ⟨w, h.tail.1⟩
    · exact PairsAt.mem h.tail.2 a m
/-- the pairs by their first, where the firsts are all different -/
def Asc (ws : List (Nat × Nat)) : Prop := ws.Pairwise fun a b => a.1 < b.1
theorem asc_uniq : ∀ {as bs : List (Nat × Nat)}, Asc as → Asc bs → (∀ x, x ∈ as ↔ x ∈ bs) → as = bs
  | [], [], _, _, _ => rfl
  | [], b :: bs, _, _, h => by have := (h b).mpr (List.mem_cons_self ..); cases this
  | a :: as, [], _, _, h => by have := (h a).mp (List.mem_cons_self ..); cases this
  | a :: as, b :: bs, ha, hb, h => by
    have ha' := List.pairwise_cons.mp ha
    have hb' := List.pairwise_cons.mp hb
    have e : a = b := by
      rcases List.mem_cons.mp ((h a).mp (List.mem_cons_self ..)) with e | m1
      · exact e
      · rcases List.mem_cons.mp ((h b).mpr (List.mem_cons_self ..)) with e | m2
        · exact e.symm
        · have h1 := hb'.1 a m1
          have h2 := ha'.1 b m2
          omega
    subst e
    refine congrArg (a :: ·) (asc_uniq ha'.2 hb'.2 fun x => ⟨fun m => ?_, fun m => ?_⟩)
    · rcases List.mem_cons.mp ((h x).mp (List.mem_cons_of_mem _ m)) with e | m'
      · subst e
        exact absurd (ha'.1 _ m) (Nat.lt_irrefl _)
      · exact m'
    · rcases List.mem_cons.mp ((h x).mpr (List.mem_cons_of_mem _ m)) with e | m'
      · subst e
        exact absurd (hb'.1 _ m) (Nat.lt_irrefl _)
      · exact m'
theorem r_sortedPT {K : PySem.W.Frag} {p : Addr} {ps : List Addr} {ws : List (Nat × Nat)} {H : Hp} {Q : VK} (hp : SqT K H p (ps.map V.ref)) (hw : PairsAt H ps ws) (hd : ws.Pairwise fun a b => a.1 ≠ b.1)
    (q : ∀ (D : Addr) (H' : Hp) (qs : List Addr) (zs : List (Nat × Nat)), H D = none → H' D = some (.lst (qs.map V.ref)) → Same H H' → PairsAt H' qs zs → zs.Perm ws → Asc zs → Q (.ref D) H') : rSortedPT K [.ref p] H Q := by
  refine ⟨p, ps.map V.ref, kyH H, rfl, hp, fun x m => ?_, fun ys D hs hb nD => ?_⟩
  · obtain ⟨a, m', rfl⟩ := List.mem_map.mp m
    obtain ⟨w, h⟩ := hw.mem a m'
    exact ⟨a, rfl, by rw [kyH_of h]; exact h⟩
  · have hy : ∀ y ∈ ys, ∃ a w, y = V.ref a ∧ H a = some (vp w) := fun y m => by
      obtain ⟨a, m', rfl⟩ := List.mem_map.mp (hb.perm.mem_iff.mp m)
      obtain ⟨w, h⟩ := hw.mem a m'
      exact ⟨a, w, rfl, h⟩
    obtain ⟨qs, rfl, hq⟩ : ∃ qs : List Addr, ys = qs.map V.ref ∧ PairsAt H qs ((qs.map V.ref).map (kyN H)) := by
      clear hs hb q
      induction ys with
      | nil => exact ⟨[], rfl, PairsAt.nil⟩
      | cons y ys ih =>
        obtain ⟨qs, rfl, hq⟩ := ih fun z m => hy z (List.mem_cons_of_mem _ m)
        obtain ⟨a, w, rfl, h⟩ := hy y (List.mem_cons_self ..)
        refine ⟨a :: qs, rfl, by rw [List.length_map, List.length_map], fun i b z e1 e2 => ?_⟩
        cases i with
        | zero =>
          cases e1
          rw [List.map_cons, List.map_cons, kyN_of h] at e2
          cases e2
          exact h
        | succ i => exact hq.2 i b z e1 e2
    have hperm : ((qs.map V.ref).map (kyN H)).Perm ws := by
      rw [← hw.keys]
      exact hb.perm.map _
    refine q D _ qs ((qs.map V.ref).map (kyN H)) nD upd_same (same_new nD) (hq.same (same_new nD)) hperm ?_
    have hne : ((qs.map V.ref).map (kyN H)).Pairwise fun a b => a.1 ≠ b.1 := (hperm.pairwise_iff fun h e => h e.symm).mpr hd
    have hle : ((qs.map V.ref).map (kyN H)).Pairwise fun a b => a.1 ≤ b.1 := by
      refine List.Pairwise.map _ (R := fun x y => (kyN H x).1 ≤ (kyN H y).1) (fun a b h => h) ?_
      refine List.Pairwise.imp_of_mem (R := fun x y => ltP (kyH H) y x = false) (fun {x y} mx my h => ?_) hs
      obtain ⟨a, w, rfl, ha⟩ := hy x mx
      obtain ⟨b, z, rfl, hb⟩ := hy y my
      have := SrtO.lexB_no.mp h
      rw [kyH_of ha, kyH_of hb] at this
      rw [kyN_of ha, kyN_of hb]
      simp only at this
      omega
    exact (hle.and hne).imp fun h => by omega
/-! ### a table of pairs -/
/-- the dict at d: at v the tuple of the pairs T v, or nothing where T v is empty -/
def DT (H : Hp) (d : Addr) (T : Nat → List (Nat × Nat)) (N : Nat) : Prop := ∃ kvs : List (Key × V), H d = some (.dK kvs) ∧ kvs.length ≤ N ∧
  ∀ v : Nat, (valV kvs (.inl (v : Int)) = none ∧ T v = []) ∨ ∃ (p : Addr) (ps : List Addr), valV kvs (.inl (v : Int)) = some (.ref p) ∧ H p = some (.tup (ps.map V.ref)) ∧ PairsAt H ps (T v)
theorem DT.same {H H' : Hp} {d : Addr} {T : Nat → List (Nat × Nat)} {N : Nat} (h : DT H d T N) (s : Same H H') : DT H' d T N := by
  obtain ⟨kvs, h1, h2, h3⟩ := h
  refine ⟨kvs, s _ _ h1, h2, fun v => ?_⟩
  rcases h3 v with h | ⟨p, ps, a, b, c⟩
  · exact .inl h
  · exact .inr ⟨p, ps, a, s _ _ b, c.same s⟩
theorem DT.isD {H : Hp} {d : Addr} {T : Nat → List (Nat × Nat)} {N : Nat} (h : DT H d T N) : IsD H d := by
  obtain ⟨kvs, h1, _⟩ := h
  exact .inl ⟨kvs, Rd.of h1⟩
theorem DT.get {H : Hp} {d z : Addr} {T : Nat → List (Nat × Nat)} {N v : Nat} {Q : VK} (h : DT H d T N) (hz : H z = some (.tup [])) (q : ∀ (p : Addr) (ps : List Addr), H p = some (.tup (ps.map V.ref)) → PairsAt H ps (T v) → Q (.ref p) H) :
    ∃ o, DGet H d (.int (v : Int)) o ∧ Q (o.getD (.ref z)) H := by
  obtain ⟨kvs, h1, _, h3⟩ := h
  refine ⟨valV kvs (.inl (v : Int)), DGet.k (k := .inl (v : Int)) h1, ?_⟩
  rcases h3 v with ⟨a, b⟩ | ⟨p, ps, a, b, c⟩
  · rw [a]
    exact q z [] hz (by rw [b]; exact PairsAt.nil)
  · rw [a]
    exact q p ps b c
theorem DT.put {H : Hp} {d p : Addr} {ps : List Addr} {ws : List (Nat × Nat)} {T : Nat → List (Nat × Nat)} {N v : Nat} {D : Hp → Prop} (h : DT H d T N) (hN : N < 10000) (hp : H p = some (.tup (ps.map V.ref))) (hw : PairsAt H ps ws)
    (q : ∀ H', DT H' d (fun u => if u = v then ws else T u) (N + 1) → D H') : ∃ H', DPut H d (.int (v : Int)) (.ref p) H' ∧ D H' := by
  obtain ⟨kvs, h1, h2, h3⟩ := h
  refine ⟨_, DPut.k (k := .inl (v : Int)) h1 (Nat.lt_of_le_of_lt h2 (Nat.lt_of_lt_of_le hN (by decide))), q _ ?_⟩
  have kp : ∀ {a : Addr} {xs : List V} {o : HO}, H a = some (.tup xs) → upd H d o a = some (.tup xs) := fun {a xs o} e => by
    rw [upd_ne (ne_of e h1 (by intro z; cases z))]
    exact e
  have kw : ∀ {ps : List Addr} {ws : List (Nat × Nat)} {o : HO}, PairsAt H ps ws → PairsAt (upd H d o) ps ws := fun {ps ws o} e => ⟨e.1, fun i a w x y => kp (e.2 i a w x y)⟩
  refine ⟨_, upd_same, Nat.le_trans (length_putK _ _ _) (Nat.add_le_add_right h2 1), fun u => ?_⟩
  by_cases e : u = v
  · subst e
    refine .inr ⟨p, ps, ?_, kp hp, ?_⟩
    · rw [valV_put, if_pos rfl]
    · show PairsAt _ ps (if u = u then ws else T u)
      rw [if_pos rfl]
      exact kw hw
  · have ne : ¬ (Sum.inl (u : Int) : Key) = .inl (v : Int) := fun z => e (by have := Sum.inl.inj z; omega)
    rcases h3 u with ⟨a, b⟩ | ⟨p', ps', a, b, c⟩
    · exact .inl ⟨by rw [valV_put, if_neg ne]; exact a, (if_neg e).trans b⟩
    · exact .inr ⟨p', ps', by rw [valV_put, if_neg ne]; exact a, kp b, by show PairsAt _ ps' (if u = v then ws else T u); rw [if_neg e]; exact kw c⟩
theorem DT.new {H : Hp} {d : Addr} (h : H d = some (.dK [])) : DT H d (fun _ => []) 0 := ⟨[], h, Nat.le_refl _, fun v => .inl ⟨rfl, rfl⟩⟩
def NewD (Q : VK) (H : Hp) : Prop := ∀ p, H p = none → Q (.ref p) (upd H p (.dK []))
end Pw

namespace Pw
open PySem PySem.Spec PyProof.Rows L2 SX TL
theorem GW.ex (n : Nat) : ∃ b g : Nat, GW n b g := by
  induction n using Nat.strongRecOn with
  | ind n ih =>
    by_cases h0 : n = 0
    · exact ⟨0, 1, .inl ⟨h0, rfl, rfl⟩⟩
    by_cases h1 : n = 1
    · exact ⟨1, 2, .inr (.inl ⟨h1, rfl, rfl⟩)⟩
    have n2 : 2 ≤ n := by omega
    by_cases h : Pm.NotPow n
    · exact ⟨n, 1, .inr (.inr ⟨n2, h, Nat.le_refl 1, Nat.pow_one n⟩)⟩
    · obtain ⟨c, k, hk, e⟩ : ∃ c k, 2 ≤ k ∧ c ^ k = n := Classical.byContradiction fun z => h fun c k hk e => z ⟨c, k, hk, e⟩
      have c2 : 2 ≤ c := pow_base2 (by omega) n2 e
      have cn : c < n := by
        rw [← e]
        have h1 : c ^ 1 < c ^ k := Nat.pow_lt_pow_right (by omega) (by omega)
        rwa [Nat.pow_one] at h1
      obtain ⟨b, g, hg⟩ := ih c cn
      rcases hg with ⟨z, _, _⟩ | ⟨z, _, _⟩ | ⟨b2, np, g1, eg⟩
      · omega
      · omega
      · refine ⟨b, g * k, .inr (.inr ⟨b2, np, ?_, by rw [Nat.pow_mul, eg, e]⟩)⟩
        have := Nat.mul_le_mul g1 (show 1 ≤ k by omega)
        omega
/-- e is an exponent of n just where it divides g -/
theorem GW.dvd {n b g e r : Nat} (h : GW n b g) (hn : 2 ≤ n) (he : 2 ≤ e) (hr : Pm.IsRoot n e r) : r ^ e = n ↔ e ∣ g := by
  rcases h with ⟨z, _, _⟩ | ⟨z, _, _⟩ | ⟨b2, np, g1, eg⟩
  · omega
  · omega
  · constructor
    · intro h
      exact (Pm.ways_of_pow b2 np g1 (by omega) (h.trans eg.symm)).1
    · intro hd
      have h2 : (b ^ (g / e)) ^ e = n := by rw [← Nat.pow_mul, Nat.div_mul_cancel hd, eg]
      have h3 : Pm.IsRoot n e (b ^ (g / e)) := by
        rw [← h2]
        exact root_pow (by omega)
      cases hr.uniq h3
      exact h2
theorem GW.base {n b g e r : Nat} (h : GW n b g) (hn : 2 ≤ n) (he : 2 ≤ e) (hr : r ^ e = n) : e ∣ g ∧ r = b ^ (g / e) := by
  rcases h with ⟨z, _, _⟩ | ⟨z, _, _⟩ | ⟨b2, np, g1, eg⟩
  · omega
  · omega
  · exact Pm.ways_of_pow b2 np g1 (by omega) (hr.trans eg.symm)
theorem GW.le2 {n b g : Nat} (h : GW n b g) (hn : 2 ≤ n) : 2 ^ g ≤ n := by
  rcases h with ⟨z, _, _⟩ | ⟨z, _, _⟩ | ⟨b2, np, g1, eg⟩
  · omega
  · omega
  · rw [← eg]
    exact Nat.pow_le_pow_left b2 g
/-- beyond g are no divisors -/
theorem divs_all {g : Nat} (hg : 1 ≤ g) : ∀ m : Nat, divs g (g - 1 + m) = divs g (g - 1)
  | 0 => rfl
  | m + 1 => by
    rw [show g - 1 + (m + 1) = g - 1 + m + 1 by omega, divs_succ, if_neg, divs_all hg m]
    intro h
    have := Nat.le_of_dvd (by omega) (Nat.dvd_of_mod_eq_zero h)
    omega
def spLawWays : Sp := fun vs H Q _ => ∃ n : Nat, vs = [.int (n : Int)] ∧ n < 2 ^ 133 ∧ ∀ (b g : Nat) (p : Addr) (ps : List Addr) (H' : Hp), GW n b g → H p = none → Same H H' → H' p = some (.tup (ps.map V.ref)) → PairsAt H' ps (waysL b g) → Q (.ref p) H'
def spRight : Sp := fun vs H Q _ => ∃ (n : Nat) (p : Addr) (ps : List Addr) (b g : Nat), vs = [.int (n : Int), .ref p] ∧ n < 2 ^ 133 ∧ GW n b g ∧ H p = some (.tup (ps.map V.ref)) ∧ PairsAt H ps (waysL b g) ∧ ∀ H', Same H H' → Q (.bl true) H'
end Pw
namespace Pw
open PySem PySem.Spec PyProof.Rows L2 SX TL
theorem room1 {k : Nat} {A : Around} (hr : Room k A) : A.units + 1 < cLine := by have := hr.un; omega
end Pw
namespace Pw
open PySem PySem.Spec PyProof.Rows L2 SX TL
theorem pg_tupB {X : Cx} {s : Shared} {H : Hp} {sc : Scope} {ev : Env} {fp : List Addr} {es : List Expr} {k : Nat} {pos : Pos} {t : TGs} {n : Nat} (hc : X.calm = true) (h : PGs (X.blk s H sc ev fp) es t)
    (hn : (assignEach es (X.blk s H sc ev fp).env).length = n := by rfl) (hst : (assignEach es (X.blk s H sc ev fp).env).findIdx? (·.1) = none := by rfl) : PG (X.blk s H sc ev fp) (.Tuple es k pos) (gTup X.K n t) :=
  pg_tup hc h hn hst
end Pw
namespace Pw
open PySem PySem.Spec PyProof.Rows L2 SX TL
section
variable {prog : Program} {w : World} {A : Around} {E : Value → Shared → Prop} {s : Shared}
theorem cat_tup0 {t b : Addr} {vs ws : List Value} {Q : Value → Shared → Prop} (ht : IsTup s.heap t vs.toArray) (hb : IsTup s.heap b ws.toArray) (hv : vs = []) (h : Q (.ref b) s) : wpAny (model prog w) A (binaryOp .Add (.ref t) (.ref b)) Q E s := by
  obtain ⟨⟨cls, dd, data, sl⟩, ho, hc, n, hd⟩ := id ht
  obtain ⟨⟨cls2, dd2, data2, sl2⟩, ho2, hc2, n2, hd2⟩ := id hb
  simp only at hc hd hc2 hd2
  subst hc hd hc2 hd2
  exact concat_meets ⟨_, ho, rfl⟩ ⟨_, ho2, rfl⟩ noFill_tuple_add seq_tuple_add PySem.F.slot_tuple_add PySem.F.entry_tuple_add (PySem.F.args_tuple_add_2 _ _)
    (tuple_addW0 t b vs.toArray ws.toArray n n2 dd dd2 sl sl2 (by simp [hv])) ⟨ho, ho2, h⟩
end
def rCatTA (K : PySem.W.Frag) : R2 := fun x y H Q => ∃ a b xs ys, x = .ref a ∧ y = .ref b ∧ SqT K H a xs ∧ SqT K H b ys ∧ ys ≠ [] ∧ xs.length + ys.length ≤ sizeLine ∧
  (xs = [] → Q (.ref b) H) ∧ (xs ≠ [] → ∀ p, H p = none → Q (.ref p) (upd H p (.tup (xs ++ ys))))
theorem op_catTA {X : Cx} : OpR X (binaryOp .Add) (rCatTA X.K) := by
  intro pins s σ H x y v u Q I rx ry h
  obtain ⟨a, b, xs, ys, rfl, rfl, ha, hb, hy, hz, q1, q2⟩ := h
  by_cases hx : xs = []
  · cases rx
    cases ry
    obtain ⟨its, r1, p1, _⟩ := I.tuple ha
    obtain ⟨its2, r2, p2, _⟩ := I.tuple hb
    exact cat_tup0 p1 p2 (r1.nil_iff.mpr hx) ⟨.ref b, H, I, rfl, q1 hx⟩
  · exact op_catT pins s σ H _ _ v u Q I rx ry ⟨a, b, xs, ys, rfl, rfl, ha, hb, hx, hz, fun z => absurd z hy, fun _ => q2 hx⟩
/-- rows of pairs put together -/
theorem PairsAt.app {H : Hp} {ps : List Addr} {ws : List (Nat × Nat)} {p : Addr} {w : Nat × Nat} (h : PairsAt H ps ws) (hp : H p = some (vp w)) : PairsAt H (ps ++ [p]) (ws ++ [w]) := h.push hp
theorem r_catTA {K : PySem.W.Frag} {H : Hp} {Q : VK} {a b p : Addr} {ps : List Addr} {ws : List (Nat × Nat)} {w : Nat × Nat} (ha : H a = some (.tup (ps.map V.ref))) (hw : PairsAt H ps ws) (hb : H b = some (.tup [.ref p])) (hp : H p = some (vp w)) (hl : ps.length ≤ 10000)
    (q : ∀ (c : Addr) (qs : List Addr) (H' : Hp), Same H H' → H' c = some (.tup (qs.map V.ref)) → PairsAt H' qs (ws ++ [w]) → Q (.ref c) H') : rCatTA K (.ref a) (.ref b) H Q := by
  refine ⟨a, b, _, _, rfl, rfl, SqT.of ha, SqT.of hb, by simp, ?_, fun z => ?_, fun _ l nl => ?_⟩
  · rw [List.length_map]
    exact Nat.le_trans (Nat.add_le_add_right hl 1) (by decide)
  · have e : ps = [] := List.map_eq_nil_iff.mp z
    subst e
    have e2 : ws = [] := List.length_eq_zero_iff.mp (by rw [← hw.1]; rfl)
    subst e2
    exact q b [p] H (Same.refl _) hb (PairsAt.push (ws := []) PairsAt.nil hp)
  · refine q l (ps ++ [p]) _ (same_new nl) ?_ ((hw.app hp).same (same_new nl))
    rw [upd_same, List.map_append]
    rfl
section
variable {td ty tx tv : TE} {σ : L2.St} {H : Hp} {Q : VK} {D : Ends}
theorem r_dget2 (h : td σ H fun x H1 => ∃ a, x = .ref a ∧ IsD H1 a ∧ ty σ H1 fun y H2 => tx σ H2 fun z H3 => ∃ o, DGet H3 a y o ∧ Q (o.getD z) H3) : tDGet2 td ty tx σ H Q := h
theorem r_dput (h : tv σ H fun v H1 => td σ H1 fun x H2 => ty σ H2 fun y H3 => ∃ a H4, x = .ref a ∧ DPut H3 a y v H4 ∧ D.nx σ H4) : sDPut td ty tv D σ H := h
theorem r_dnew (h : ∀ p H', H p = none → H' p = some (.dK []) → Same H H' → Q (.ref p) H') : tDNewK σ H Q := fun p hp => h p _ hp upd_same (same_new hp)
theorem r_dnew' (h : ∀ p, H p = none → Q (.ref p) (upd H p (.dK []))) : tDNewK σ H Q := h
end
/-! ### all powers below M, found base by base -/
structure TInv (T : Nat → List (Nat × Nat)) (M B E : Nat) : Prop where
  mem : ∀ v e c, (e, c) ∈ T v ↔ v < M ∧ 2 ≤ e ∧ c ^ e = v ∧ 2 ≤ c ∧ (c < B ∨ (c = B ∧ e < E))
  nodup : ∀ v, (T v).Nodup
theorem TInv.new (M : Nat) : TInv (fun _ => []) M 2 2 := ⟨fun v e c => ⟨fun h => (nomatch h), fun ⟨_, h1, _, h2, h3⟩ => by omega⟩, fun v => List.nodup_nil⟩
theorem TInv.push {T : Nat → List (Nat × Nat)} {M B E : Nat} (h : TInv T M B E) (b2 : 2 ≤ B) (e2 : 2 ≤ E) (hv : B ^ E < M) : TInv (fun u => if u = B ^ E then T (B ^ E) ++ [(E, B)] else T u) M B (E + 1) := by
  refine ⟨fun v e c => ?_, fun v => ?_⟩
  · by_cases z : v = B ^ E
    · subst z
      show (e, c) ∈ (if B ^ E = B ^ E then T (B ^ E) ++ [(E, B)] else T (B ^ E)) ↔ _
      rw [if_pos rfl, List.mem_append, h.mem]
      constructor
      · rintro (⟨h1, h2, h3, h4, h5⟩ | h5)
        · exact ⟨h1, h2, h3, h4, by omega⟩
        · have h6 : (e, c) = (E, B) := by simpa using h5
          cases h6
          exact ⟨hv, e2, rfl, b2, .inr ⟨rfl, by omega⟩⟩
      · rintro ⟨h1, h2, h3, h4, h5⟩
        by_cases w : c = B ∧ e = E
        · exact .inr (by rw [w.1, w.2]; exact List.mem_singleton.mpr rfl)
        · exact .inl ⟨h1, h2, h3, h4, by omega⟩
    · show (e, c) ∈ (if v = B ^ E then T (B ^ E) ++ [(E, B)] else T v) ↔ _
      rw [if_neg z, h.mem]
      constructor
      · rintro ⟨h1, h2, h3, h4, h5⟩
        exact ⟨h1, h2, h3, h4, by omega⟩
      · rintro ⟨h1, h2, h3, h4, h5⟩
        refine ⟨h1, h2, h3, h4, ?_⟩
        rcases h5 with h5 | ⟨h5, h6⟩
        · exact .inl h5
        · by_cases w : e = E
          · exact absurd (by rw [← h3, h5, w]) z
          · exact .inr ⟨h5, by omega⟩
  · by_cases z : v = B ^ E
    · subst z
      show (if B ^ E = B ^ E then T (B ^ E) ++ [(E, B)] else T (B ^ E)).Nodup
      rw [if_pos rfl]
      refine List.nodup_append.mpr ⟨h.nodup _, by simp, fun x hx y hy e => ?_⟩
      have hy2 : y = (E, B) := by simpa using hy
      rw [e, hy2] at hx
      have := (h.mem _ _ _).mp hx
      omega
    · show (if v = B ^ E then T (B ^ E) ++ [(E, B)] else T v).Nodup
      rw [if_neg z]
      exact h.nodup v
theorem TInv.next {T : Nat → List (Nat × Nat)} {M B E : Nat} (h : TInv T M B E) (b2 : 2 ≤ B) (hv : M ≤ B ^ E) : TInv T M (B + 1) 2 := by
  refine ⟨fun v e c => ?_, h.nodup⟩
  rw [h.mem]
  constructor
  · rintro ⟨h1, h2, h3, h4, h5⟩
    exact ⟨h1, h2, h3, h4, by omega⟩
  · rintro ⟨h1, h2, h3, h4, h5⟩
    refine ⟨h1, h2, h3, h4, ?_⟩
    rcases h5 with h5 | ⟨h5, h6⟩
    · by_cases w : c = B
      · refine .inr ⟨w, Nat.lt_of_not_le fun z => ?_⟩
        have := Nat.pow_le_pow_right (show 0 < B by omega) z
        rw [← w, h3, w] at this
        omega
      · exact .inl (by omega)
    · omega
theorem TInv.apart {T : Nat → List (Nat × Nat)} {M B E : Nat} (h : TInv T M B E) (v : Nat) : (T v).Pairwise fun a b => a.1 ≠ b.1 := by
  refine List.Pairwise.imp_of_mem (R := fun a b => a ≠ b) (fun {x y} mx my hne e => hne ?_) (h.nodup v)
  obtain ⟨a, b⟩ := x
  obtain ⟨c, d⟩ := y
  have e' : a = c := e
  subst e'
  have hx := (h.mem _ _ _).mp mx
  have hy := (h.mem _ _ _).mp my
  have : b = d := (Nat.pow_left_inj (show a ≠ 0 by omega)).mp (by rw [hx.2.2.1, hy.2.2.1])
  rw [this]
theorem divs_asc (g i : Nat) : (divs g i).Pairwise fun a b => a < b := by
  unfold divs
  refine List.Pairwise.filter _ (List.Pairwise.map _ (R := fun a b => a < b) (fun a b h => by show 2 + a < 2 + b; omega) List.pairwise_lt_range)
/-- what the table holds at v, sorted and turned, are all ways of v -/
theorem TInv.ways {T : Nat → List (Nat × Nat)} {M v b g : Nat} {zs : List (Nat × Nat)} (h : TInv T M 60 2) (hM : M ≤ 3100) (hv : v < M) (v2 : 2 ≤ v) (hgw : GW v b g) (hz : zs.Perm (T v)) (ha : Asc zs) : zs.map (fun z => (z.2, z.1)) = waysL b g := by
  have e : zs = (waysL b g).map fun z => (z.2, z.1) := by
    refine asc_uniq ha ?_ fun x => ?_
    · unfold Asc waysL
      rw [List.map_map]
      exact List.Pairwise.map _ (R := fun a b => a < b) (fun a b h => h) (divs_asc g (g - 1))
    · obtain ⟨e, c⟩ := x
      rw [hz.mem_iff, h.mem]
      constructor
      · rintro ⟨_, h2, h3, h4, h5⟩
        obtain ⟨h6, h7⟩ := hgw.base v2 h2 h3
        have h8 := Nat.le_of_dvd hgw.pos h6
        exact List.mem_map.mpr ⟨(c, e), waysL_mem.mpr ⟨h2, by show e < 2 + (g - 1); omega, h6, h7⟩, rfl⟩
      · intro hm
        obtain ⟨⟨c', e'⟩, hm2, he⟩ := List.mem_map.mp hm
        obtain ⟨rfl, rfl⟩ : e' = e ∧ c' = c := ⟨congrArg Prod.fst he, congrArg Prod.snd he⟩
        obtain ⟨h1, h2, h3, h4⟩ := waysL_mem.mp hm2
        have h1' : 2 ≤ e' := h1
        have h4' : c' = b ^ (g / e') := h4
        have hp : c' ^ e' = v := by
          rw [h4', ← Nat.pow_mul, Nat.div_mul_cancel h3]
          exact hgw.pow
        have c2 := pow_base2 (show 1 ≤ e' by omega) v2 hp
        refine ⟨hv, h1', hp, c2, .inl (Nat.lt_of_not_le fun z => ?_)⟩
        have h5 : c' ^ 2 ≤ c' ^ e' := Nat.pow_le_pow_right (by omega) h1'
        have h6 := Nat.pow_le_pow_left z 2
        omega
  rw [e, List.map_map]
  have : (fun z : Nat × Nat => (z.2, z.1)) ∘ (fun z : Nat × Nat => (z.2, z.1)) = id := rfl
  rw [this, List.map_id]
structure DuesW (H : Hp) (D : Addr) (xs : List Nat) (m : Nat) : Prop where
  ex : ∃ ps : List Addr, H D = some (.lst (ps.map V.ref)) ∧ ps.length = m ∧ ∀ (i n : Nat) (p : Addr), xs[i]? = some n → ps[i]? = some p → ∃ (b g : Nat) (qs : List Addr), GW n b g ∧ H p = some (.tup (qs.map V.ref)) ∧ PairsAt H qs (waysL b g)
theorem DuesW.same {H H' : Hp} {D : Addr} {xs : List Nat} {m : Nat} (d : DuesW H D xs m) (s : Same H H') : DuesW H' D xs m := by
  obtain ⟨ps, h1, h2, h3⟩ := d.ex
  exact ⟨ps, s _ _ h1, h2, fun i n p a b => let ⟨x, g, qs, h4, h5, h6⟩ := h3 i n p a b; ⟨x, g, qs, h4, s _ _ h5, h6.same s⟩⟩
theorem DuesW.push {H : Hp} {D p : Addr} {ys : List Nat} {i b g : Nat} {qs : List Addr} (d : DuesW H D (ys.take i) i) (hi : i < ys.length) (hgw : GW ys[i] b g) (hp : H p = some (.tup (qs.map V.ref))) (hP : PairsAt H qs (waysL b g)) :
    ∃ ps : List Addr, H D = some (.lst (ps.map V.ref)) ∧ ps.length = i ∧ DuesW (upd H D (.lst (ps.map V.ref ++ [V.ref p]))) D (ys.take (i + 1)) (i + 1) := by
  obtain ⟨ps, h1, h2, h3⟩ := d.ex
  refine ⟨ps, h1, h2, ps ++ [p], by rw [upd_same, List.map_append]; rfl, by rw [List.length_append, h2]; rfl, fun j n p' hj hp' => ?_⟩
  have kp : ∀ {a : Addr} {xs : List V} {o : HO}, H a = some (.tup xs) → upd H D o a = some (.tup xs) := fun {a xs o} e => by
    rw [upd_ne (ne_of e h1 (by intro z; cases z))]
    exact e
  rcases Nat.lt_trichotomy j i with z | z | z
  · rw [List.getElem?_append_left (by omega)] at hp'
    rw [List.getElem?_take, if_pos (by omega)] at hj
    obtain ⟨b', g', qs', h4, h5, h6⟩ := h3 j n p' (by rw [List.getElem?_take, if_pos z]; exact hj) hp'
    exact ⟨b', g', qs', h4, kp h5, h6.upd h1⟩
  · subst z
    rw [List.getElem?_append_right (by omega), h2, Nat.sub_self] at hp'
    rw [List.getElem?_take, if_pos (by omega), List.getElem?_eq_getElem hi] at hj
    cases hj
    cases hp'
    exact ⟨b, g, qs, hgw, kp hp, hP.upd h1⟩
  · rw [List.getElem?_take, if_neg (by omega)] at hj
    cases hj
end Pw
namespace Pw
open PySem PySem.Spec PyProof.Rows L2 SX TL
theorem DT.mono {H : Hp} {d : Addr} {T : Nat → List (Nat × Nat)} {N N' : Nat} (h : DT H d T N) (l : N ≤ N') : DT H d T N' := by
  obtain ⟨kvs, h1, h2, h3⟩ := h
  exact ⟨kvs, h1, Nat.le_trans h2 l, h3⟩
/-- what the table holds is short -/
theorem PairsAt.len_le {H : Hp} {ps : List Addr} {ws : List (Nat × Nat)} {n : Nat} (h : PairsAt H ps ws) (l : ws.length ≤ n) : ps.length ≤ n := by rw [h.1]; exact l
/-- each base has one exponent at a number at most -/
theorem TInv.len {T : Nat → List (Nat × Nat)} {M B E : Nat} (h : TInv T M B E) (hM : M ≤ 3100) (hB : B ≤ 60) (v : Nat) : (T v).length ≤ 1000 := by
  have hs : ∀ x ∈ T v, x ∈ (List.range 12).flatMap fun e => (List.range 61).map fun c => (e, c) := fun x m => by
    obtain ⟨e, c⟩ := x
    obtain ⟨h1, h2, h3, h4, h5⟩ := (h.mem _ _ _).mp m
    have he : e < 12 := by
      refine Nat.lt_of_not_le fun z => ?_
      have h6 : (2 : Nat) ^ 12 ≤ 2 ^ e := Nat.pow_le_pow_right (by decide) z
      have h7 : (2 : Nat) ^ e ≤ c ^ e := Nat.pow_le_pow_left h4 e
      omega
    refine List.mem_flatMap.mpr ⟨e, List.mem_range.mpr he, List.mem_map.mpr ⟨c, List.mem_range.mpr (by omega), rfl⟩⟩
  have hl := (h.nodup v).length_le_of_subset hs
  have e : ((List.range 12).flatMap fun e => (List.range 61).map fun c => (e, c)).length = 732 := by decide +kernel
  omega
end Pw
namespace Pw
open PySem PySem.Spec PyProof.Rows L2 SX TL
theorem DT.getx {H : Hp} {d z : Addr} {T : Nat → List (Nat × Nat)} {N : Nat} (h : DT H d T N) (v : Nat) (hz : H z = some (.tup [])) :
    ∃ (o : Option V) (p : Addr) (ps : List Addr), DGet H d (.int (v : Int)) o ∧ o.getD (.ref z) = .ref p ∧ H p = some (.tup (ps.map V.ref)) ∧ PairsAt H ps (T v) := by
  obtain ⟨o, h1, h2⟩ := h.get (v := v) (Q := fun x H' => ∃ (p : Addr) (ps : List Addr), x = .ref p ∧ H' p = some (.tup (ps.map V.ref)) ∧ PairsAt H' ps (T v)) hz fun p ps a b => ⟨p, ps, rfl, a, b⟩
  obtain ⟨p, ps, a, b, c⟩ := h2
  exact ⟨o, p, ps, h1, a, b, c⟩
end Pw

namespace K05
open PySem PySem.Spec PyProof.Rows L2 Pw SX
def top (i : Nat) : Stmt := PySem.Challenge.pw_powernumbers_k05_ways_of_powers.main.body.getD i (.Pass ⟨0, 0, 0, 0⟩)
abbrev s_root_of : Stmt := top 2
theorem sc_root_of : FnScope ["number", "exponent", "root"] ["number", "exponent"] (defScope s_root_of) := ⟨rfl, rfl, rfl, by decide +kernel, rfl, by decide +kernel, by decide +kernel⟩
abbrev s_root : Stmt := top 3
theorem sc_root : FnScope ["number", "exponent", "length", "root", "lower"] ["number", "exponent"] (defScope s_root) := ⟨rfl, rfl, rfl, by decide +kernel, rfl, by decide +kernel, by decide +kernel⟩
abbrev s_newton_step : Stmt := top 4
theorem sc_newton_step : FnScope ["number", "exponent", "root"] ["number", "exponent", "root"] (defScope s_newton_step) := ⟨rfl, rfl, rfl, by decide +kernel, rfl, by decide +kernel, by decide +kernel⟩
abbrev s_taken : Stmt := top 5
theorem sc_taken : FnScope ["base", "exponent", "power", "place"] ["base", "exponent"] (defScope s_taken) := ⟨rfl, rfl, rfl, by decide +kernel, rfl, by decide +kernel, by decide +kernel⟩
abbrev s_next_prime : Stmt := top 7
theorem sc_next_prime : FnScope ["number", "following"] ["number"] (defScope s_next_prime) := ⟨rfl, rfl, rfl, by decide +kernel, rfl, by decide +kernel, by decide +kernel⟩
abbrev s_is_prime : Stmt := top 8
theorem sc_is_prime : FnScope ["number", "divisor"] ["number"] (defScope s_is_prime) := ⟨rfl, rfl, rfl, by decide +kernel, rfl, by decide +kernel, by decide +kernel⟩
abbrev s_is_power : Stmt := top 10
theorem sc_is_power : FnScope ["number"] ["number"] (defScope s_is_power) := ⟨rfl, rfl, rfl, by decide +kernel, rfl, by decide +kernel, by decide +kernel⟩
abbrev s_ways_of : Stmt := top 11
theorem sc_ways_of : FnScope ["number", "base", "greatest", "exponents", "k"] ["number"] (defScope s_ways_of) := ⟨rfl, rfl, rfl, by decide +kernel, rfl, by decide +kernel, by decide +kernel⟩
abbrev s_greatest_way : Stmt := top 12
theorem sc_greatest_way : FnScope ["number", "base", "greatest", "prime", "root", "left"] ["number"] (defScope s_greatest_way) := ⟨rfl, rfl, rfl, by decide +kernel, rfl, by decide +kernel, by decide +kernel⟩
abbrev s_law_mix : Stmt := top 14
theorem sc_law_mix : FnScope ["cell", "k", "number"] ["cell", "k"] (defScope s_law_mix) := ⟨rfl, rfl, rfl, by decide +kernel, rfl, by decide +kernel, by decide +kernel⟩
abbrev s_law_deck : Stmt := top 15
theorem sc_law_deck : FnScope ["script"] ["script"] (defScope s_law_deck) := ⟨rfl, rfl, rfl, by decide +kernel, rfl, by decide +kernel, by decide +kernel⟩
abbrev s_law_next : Stmt := top 16
theorem sc_law_next : FnScope ["deck", "many", "cell", "found"] ["deck", "many"] (defScope s_law_next) := ⟨rfl, rfl, rfl, by decide +kernel, rfl, by decide +kernel, by decide +kernel⟩
abbrev s_law_great : Stmt := top 17
theorem sc_law_great : FnScope ["deck", "most", "found", "k"] ["deck", "most"] (defScope s_law_great) := ⟨rfl, rfl, rfl, by decide +kernel, rfl, by decide +kernel, by decide +kernel⟩
abbrev s_law_a_power : Stmt := top 18
theorem sc_law_a_power : FnScope ["deck", "most", "exponent", "places", "few", "base", "found", "k"] ["deck", "most"] (defScope s_law_a_power) := ⟨rfl, rfl, rfl, by decide +kernel, rfl, by decide +kernel, by decide +kernel⟩
abbrev s_law_number : Stmt := top 19
theorem sc_law_number : FnScope ["deck", "most", "near", "some"] ["deck", "most"] (defScope s_law_number) := ⟨rfl, rfl, rfl, by decide +kernel, rfl, by decide +kernel, by decide +kernel⟩
abbrev s_law_taken : Stmt := top 20
theorem sc_law_taken : FnScope ["base", "exponent", "found", "k"] ["base", "exponent"] (defScope s_law_taken) := ⟨rfl, rfl, rfl, by decide +kernel, rfl, by decide +kernel, by decide +kernel⟩
abbrev s_law_root : Stmt := top 21
theorem sc_law_root : FnScope ["number", "exponent", "found", "bit", "more", "k"] ["number", "exponent"] (defScope s_law_root) := ⟨rfl, rfl, rfl, by decide +kernel, rfl, by decide +kernel, by decide +kernel⟩
abbrev s_law_ways : Stmt := top 22
theorem sc_law_ways : FnScope ["number", "found", "exponent", "base"] ["number"] (defScope s_law_ways) := ⟨rfl, rfl, rfl, by decide +kernel, rfl, by decide +kernel, by decide +kernel⟩
abbrev s_law_right : Stmt := top 23
theorem sc_law_right : FnScope ["number", "due", "found", "one", "told", "part"] ["number", "due"] (defScope s_law_right) := ⟨rfl, rfl, rfl, by decide +kernel, rfl, by decide +kernel, by decide +kernel⟩
abbrev s_law : Stmt := top 24
theorem sc_law : FnScope ["script", "deck", "numbers", "dues", "k", "start", "here", "base", "power", "exponent", "number", "due"] ["script"] (defScope s_law) := ⟨rfl, rfl, rfl, by decide +kernel, rfl, by decide +kernel, by decide +kernel⟩
end K05

open PySem PySem.Spec PyProof.Rows L2 Pw SX
local macro_rules | `(tactic| walk_at "p1") => `(tactic| first
  | with_reducible refine r_seq ?_
  | with_reducible refine r_set ?_
  | with_reducible refine r_op ?_
  | with_reducible refine' r_var (by with_unfolding_all exact rfl) ?_
  | with_reducible refine r_c ?_
  | with_reducible refine r_I0 ?_
  | with_reducible refine r_exB ?_
  | with_reducible refine r_exI ?_
  | with_reducible refine r_test ?_
  | with_reducible refine r_if ?_
  | with_reducible refine r_eqI ?_
  | with_reducible refine r_neI ?_
  | with_reducible refine r_ret ?_
  | with_reducible refine r_cons ?_
  | with_reducible refine r_nil ?_
  | with_reducible refine r_call ?_
  | with_reducible refine r_CB ?_
  | with_reducible refine r_asg ?_
  | with_reducible refine r_drop ?_
  | with_reducible refine r_and ?_
  | with_reducible refine r_or ?_
  | with_reducible refine r_not ?_
  | with_reducible refine iteT ?_
  | with_reducible refine iteF ?_
  | with_reducible refine iteNT ?_
  | with_reducible refine iteNF ?_
  | with_reducible refine r_B ?_
  | with_reducible refine r_andV ?_
  | with_reducible refine r_orV ?_
  | with_reducible refine r_notV ?_
  | with_reducible refine r_tup ?_
  | with_reducible refine r_lst ?_
  | with_reducible refine r_min2 ?_
  | with_reducible refine r_max2 ?_
  | with_reducible refine r_sl ?_
  | with_reducible refine r_noPart ?_
  | with_reducible refine r_part ?_
  | with_reducible refine r_gName ?_
  | with_reducible refine r_gSub ?_
  | with_reducible refine r_bits ?_
  | with_reducible refine r_truth ?_
  | with_reducible refine r_truI ?_
  | with_reducible refine r_truB ?_
  | with_reducible refine r_un ?_
  | with_reducible refine r_U ?_
  | with_reducible refine r_next ?_
  | with_reducible refine r_BM ?_
  | with_reducible refine r_for ?_
  | with_reducible refine r_rng1 ?_
  | with_reducible refine r_ex1 ?_
  | with_reducible refine r_iList ?_
  | with_reducible refine r_iTup ?_
  | with_reducible refine r_revR ?_
  | with_reducible refine r_tRg1 ?_
  | with_reducible refine r_ifE ?_
  | with_reducible refine r_lc ?_
  | with_reducible refine' r_ixL (SqL.of (by assumption)) (by with_unfolding_all exact rfl) ?_
  | with_reducible refine' r_ixT (SqT.of (by assumption)) (by with_unfolding_all exact rfl) ?_
  | with_reducible refine' r_lenL (SqL.of (by assumption)) ?_
  | with_reducible refine' r_lenT (SqT.of (by assumption)) ?_
  | with_reducible refine' r_slL (by first | with_reducible assumption | exact SqL.of (by with_reducible assumption)) ?_
  | with_reducible refine r_pow2 ?_
  | with_reducible refine r_pow3 ?_
  | with_reducible refine r_pow4 ?_
  | with_reducible refine r_pow5 ?_
  | with_reducible refine r_pow6 ?_
  | with_reducible refine r_pow8 ?_
  | with_reducible refine r_pow9 ?_
  | with_reducible refine r_pow10 ?_
  | with_reducible refine r_pow11 ?_
  | with_reducible refine r_pow12 ?_
  | with_reducible refine r_pow18 ?_
  | with_reducible refine r_pow20 ?_
  | with_reducible refine r_pow30 ?_
  | with_reducible refine r_pow35 ?_
  | with_reducible refine r_pow40 ?_
  | with_reducible refine r_pow41 ?_
  | with_reducible refine r_pow42 ?_
  | with_reducible refine r_pow50 ?_
  | with_reducible refine r_pow60 ?_
  | with_reducible refine r_I (by with_unfolding_all decide) ?_)
local macro_rules | `(tactic| walk_at "ps") => `(tactic| first
  | with_reducible refine r_M1 ?_
  | with_reducible refine r_rng2 ?_
  | with_reducible refine r_yes ?_
  | with_reducible refine r_rng3 ?_
  | with_reducible refine r_ex2 ?_
  | with_reducible refine' r_aug (by with_unfolding_all exact rfl) ?_
  | with_reducible refine r_ipI ?_
  | with_reducible refine r_exS ?_
  | with_reducible refine r_eqSS ?_
  | with_reducible refine r_neSS ?_
  | with_reducible refine r_inSign ?_
  | with_reducible refine r_iStr ?_
  | with_reducible refine r_exStr ?_
  | with_reducible refine r_revL ?_)
local macro_rules | `(tactic| walk_at "pi") => `(tactic| first
  | with_reducible refine r_isiII ?_
  | with_reducible refine r_isiIB ?_
  | with_reducible refine r_isiIT ?_
  | with_reducible refine r_isiBB ?_
  | with_reducible refine r_isiSS ?_
  | with_reducible refine' r_isiTT (by assumption) ?_
  | with_reducible refine' r_isiTB (by assumption) ?_
  | with_reducible refine' r_isiTI (by assumption) ?_)
local macro_rules | `(tactic| walk_at "pw") => `(tactic| repeat (first | walk_at "p1" | walk_at "pi" | walk_at "ps"))
local macro_rules | `(tactic| walk_at "p0") => `(tactic| ((try simp only [cxK, cxK2, lit_e, lit_fig, lit_0, lit_hat, lit_00, lit_210]); repeat (first | walk_at "p1" | walk_at "pi" | walk_at "ps")))
local macro_rules | `(tactic| walk_at "pm") => `(tactic| first
  | refine r_I (mulx_of 40 40 (by first | decide | omega) (by first | decide | omega) (by decide)) ?_
  | refine r_I (mulx_of 100 100 (by first | decide | omega) (by first | decide | omega) (by decide)) ?_
  | refine r_I (mulx_of 400 400 (by first | decide | omega) (by first | decide | omega) (by decide)) ?_)
local macro_rules | `(tactic| walk_at "pd") => `(tactic| refine r_I (show CDivW _ _ from wide_div (b := 400) (by first | decide | omega) (by first | decide | omega) (by decide) (by decide)) ?_)

namespace K05
open PySem PySem.Spec PyProof.Rows L2 Pw SX
section
variable {P : Program} {w : World} {K : PySem.W.Frag} {mg : Str → Option Value} {base : Heap}
theorem ok_law_mix (F : Pl K mg "_law_mix" s_law_mix ["cell", "k"]) : Def P w K mg base 1 "_law_mix" ["cell", "k"] spMix := by
  refine F.ok sc_law_mix (fun vs H Q E h => ?_) (fun f cdv A outer s H vs Q E hr h => ?_)
  · obtain ⟨c, k, rfl, _⟩ := h
    rfl
  · obtain ⟨cell, k, rfl, k0, k1, q⟩ := h
    refine ⟨_, (pss_cons (ps_set (i := 2) sc_law_mix.nd rfl (Or.inl rfl) (pe_op op_add (pe_op op_mod (pv 0) pe_int) (pe_op op_mulX (pe_op op_mulX pe_int (pv 1)) (pv 1))))
      (pss_cons (ps_set (i := 2) sc_law_mix.nd rfl (Or.inl rfl) (pe_op op_mod (pe_op op_add (pv 2) (pe_op op_mulX pe_int (pv 1))) pe_int))
      (pss_cons (ps_set (i := 2) sc_law_mix.nd rfl (Or.inl rfl) (pe_op op_mod (pe_op op_mulX (pv 2) (pv 2)) pe_int))
      (pss_one (ps_ret (pe_op op_fdivW (pe_op op_mod (pe_op op_mulX (pv 2) (pe_op op_add (pv 2) pe_int)) pe_int) pe_int)))))), ?_⟩
    refine at_st [some (.int cell), some (.int k), none] rfl ?_
    walk_at "pw"
    walk_at "pm"
    walk_at "pw"
    walk_at "pm"
    walk_at "pw"
    walk_at "pm"
    walk_at "pw"
    walk_at "pm"
    walk_at "pw"
    walk_at "pm"
    walk_at "pw"
    walk_at "pd"
    walk_at "pw"
    refine q _ ?_
    omega
theorem ok_law_deck (F : Pl K mg "_law_deck" s_law_deck ["script"]) (B : Bl mg) : Def P w K mg base 1 "_law_deck" ["script"] (spDeck K) := by
  refine F.ok sc_law_deck (fun vs H Q E h => ?_) (fun f cdv A outer s H vs Q E hr h => ?_)
  · obtain ⟨a, ns, rfl, _⟩ := h
    rfl
  · obtain ⟨a, ns, rfl, hS, q⟩ := h
    refine ⟨_, (pss_one (ps_ret (pe_lst (pa_cons (pe_slice sl_list (pv 0) po_none (po_some pe_int)) (pa_cons pe_int (pa_cons pe_int (pa_cons pe_int (pa_cons (pe_callB (cr_sum rfl) (by rfl) B.sum (by decide +kernel) (pa_cons (pe_slice sl_list (pv 0) po_none (po_some pe_int)) pa_nil)) pa_nil)))))))), ?_⟩
    refine at_st [some (.ref a)] rfl ?_
    walk_at "p0"
    refine newC fun c H1 nc hc s1 => ?_
    walk_at "pw"
    refine r_slL (s1.seq hS) (newC fun c2 H2 nc2 hc2 s2 => ?_)
    walk_at "pw"
    rw [show (63 : Int) = ((63 : Nat) : Int) from rfl, cut_to] at hc hc2
    refine r_sum (SqL.of hc2) ?_
    walk_at "pw"
    refine newL (by simp) fun d H3 nd hd s3 => ?_
    have s13 := s1.trans (s2.trans s3)
    refine q d c H3 ((s1.trans s2).free nd) s13 ⟨ns.take 63, 0, 0, 0, _, hd, s3 _ _ (s2 _ _ hc), ?_, by decide, by omega, by rw [List.length_take]; omega, by decide, by decide, by omega⟩
    exact ne_of_none (s2 _ _ hc) nd
theorem ok_law_next (F : Pl K mg "_law_next" s_law_next ["deck", "many"]) (B : Bl mg) (D_law_mix : Def P w K mg base 1 "_law_mix" ["cell", "k"] spMix) : Def P w K mg base 2 "_law_next" ["deck", "many"] spNext := by
  refine F.ok sc_law_next (fun vs H Q E h => ?_) (fun f cdv A outer s H vs Q E hr h => ?_)
  · obtain ⟨d, c, m, n, rfl, _⟩ := h
    rfl
  · obtain ⟨d, c, many, n, rfl, m0, m1, D, hn, q⟩ := h
    obtain ⟨cells, b, l, m, t, hd, hc, ncd, b0, b1, c63, l0, mm0, mm1⟩ := D.ex
    have hdiv : CDivW l many := wide_div (b := 8000) m0 m1 (by decide) (by decide)
    refine ⟨_, (pss_cons (ps_if (PW.pt (pw_and (pt_cmpR op_eq (pe_ix ix_list (pv 0) pe_int (fun _ _ => rfl)) pe_int (nomark _)) (pw_and1 (pt_cmpR op_lt (pe_ix ix_list (pv 0) pe_int (fun _ _ => rfl)) (pe_callB cr_lenS (by rfl) B.len PySem.boot_len (pa_cons (pe_ix ix_list (pv 0) pe_int (fun _ _ => rfl)) pa_nil)) (nomark _))))) (pss_cons (ps_set (i := 2) sc_law_next.nd rfl (Or.inl rfl) (pe_ix ix_list (pe_ix ix_list (pv 0) pe_int (fun _ _ => rfl)) (pe_ix ix_list (pv 0) pe_int (fun _ _ => rfl)) (fun _ _ => rfl)))
      (pss_cons (ps_asg (pe_op op_add (pe_ix ix_list (pv 0) pe_int (fun _ _ => rfl)) pe_int) (pg_sub (pv 0) pe_int set_list))
      (pss_cons (ps_if (pt_cmpR op_lt (pv 2) (pe_op op_pow pe_int pe_int) (nomark _)) (pss_one (ps_ret (pe_op op_mod (pe_df D_law_mix hr (by rfl) (pa_cons (pv 2) (pa_cons (pe_ix ix_list (pv 0) pe_int (fun _ _ => rfl)) pa_nil))) (pv 1)))) pss_nil)
      (pss_one (ps_asg (pv 2) (pg_sub (pv 0) pe_int set_list)))))) pss_nil)
      (pss_cons (ps_if (pt_cmpR op_gt (pe_ix ix_list (pv 0) pe_int (fun _ _ => rfl)) pe_int (nomark _)) (pss_cons (ps_set (i := 3) sc_law_next.nd rfl (Or.inl rfl) (pe_op op_mod (pe_ix ix_list (pv 0) pe_int (fun _ _ => rfl)) (pv 1)))
      (pss_cons (ps_asg (pe_op op_fdivW (pe_ix ix_list (pv 0) pe_int (fun _ _ => rfl)) (pv 1)) (pg_sub (pv 0) pe_int set_list))
      (pss_one (ps_ret (pv 3))))) pss_nil)
      (pss_cons (ps_asg (pe_op op_add (pe_ix ix_list (pv 0) pe_int (fun _ _ => rfl)) pe_int) (pg_sub (pv 0) pe_int set_list))
      (pss_one (ps_ret (pe_op op_mod (pe_df D_law_mix hr (by rfl) (pa_cons (pe_ix ix_list (pv 0) pe_int (fun _ _ => rfl)) (pa_cons (pe_op op_add (pe_ix ix_list (pv 0) pe_int (fun _ _ => rfl)) pe_int) pa_nil))) (pv 1))))))), ?_⟩
    refine at_st [some (.ref d), some (.int many), none, none] rfl ?_
    walk_at "p0"
    refine r_iteI (fun e0 => ?_) (fun e0 => ?_)
    · walk_at "pw"
      refine r_ite (fun e1 => ?_) (fun e1 => ?_)
      · rw [List.length_map] at e1
        walk_at "pw"
        obtain ⟨j, rfl⟩ := Int.eq_ofNat_of_zero_le b0
        have hj : j < cells.length := by omega
        refine r_ixL (SqL.of hc) (v := .int cells[j]) (at_of rfl (by rw [List.getElem?_map, List.getElem?_eq_getElem hj]; rfl)) ?_
        walk_at "pw"
        refine r_setLx [.ref c, .int ((j : Int) + 1), .int l, .int m, .int t] hd rfl rfl fun H1 hd1 k1 => ?_
        have hc1 := k1 _ _ ncd hc
        walk_at "pw"
        refine r_ite (fun e2 => ?_) (fun e2 => ?_)
        · walk_at "pw"
          refine ⟨_, _, rfl, by omega, by omega, fun r hr0 => ?_⟩
          walk_at "pw"
          refine r_I m0 ?_
          refine q _ _ (Int.emod_nonneg _ (by omega)) (Int.emod_lt_of_pos _ m0) k1 ⟨cells, _, _, _, _, hd1, hc1, ncd, by omega, by omega, c63, l0, mm0, by omega⟩
        · have hp : (0 : Int) < cells[j] := by
            omega
          walk_at "pw"
          refine r_setLx [.ref c, .int ((j : Int) + 1), .int cells[j], .int m, .int t] hd1 rfl rfl fun H2 hd2 k2 => ?_
          have hc2 := k2 _ _ ncd hc1
          walk_at "pw"
          refine r_ite (fun _ => ?_) (fun e4 => absurd hp e4)
          walk_at "pw"
          refine r_I m0 ?_
          walk_at "pw"
          refine r_I (wide_div (b := 8000) m0 m1 (by decide) (by decide)) ?_
          walk_at "pw"
          refine r_setLx [.ref c, .int ((j : Int) + 1), .int (cells[j] / many), .int m, .int t] hd2 rfl rfl fun H3 hd3 k3 => ?_
          walk_at "pw"
          refine q _ _ (Int.emod_nonneg _ (by omega)) (Int.emod_lt_of_pos _ m0) (k1.trans (k2.trans k3)) ⟨cells, _, _, _, _, hd3, k3 _ _ ncd hc2, ncd, by omega, by omega, c63, Int.ediv_nonneg (by omega) (by omega), mm0, by omega⟩
      · walk_at "pw"
        refine r_ite (fun e4 => absurd e4 (by omega)) (fun _ => ?_)
        walk_at "pw"
        refine r_setLx [.ref c, .int b, .int l, .int (m + 1), .int t] hd rfl rfl fun H1 hd1 k1 => ?_
        walk_at "pw"
        refine ⟨_, _, rfl, by omega, by omega, fun r hr0 => ?_⟩
        walk_at "pw"
        refine r_I m0 ?_
        refine q _ _ (Int.emod_nonneg _ (by omega)) (Int.emod_lt_of_pos _ m0) k1 ⟨cells, _, _, _, _, hd1, k1 _ _ ncd hc, ncd, by omega, by omega, c63, l0, by omega, by omega⟩
    · walk_at "pw"
      refine r_ite (fun _ => ?_) (fun e4 => absurd (show 0 < l by omega) e4)
      walk_at "pw"
      refine r_I m0 ?_
      walk_at "pw"
      refine r_I hdiv ?_
      walk_at "pw"
      refine r_setLx [.ref c, .int b, .int (l / many), .int m, .int t] hd rfl rfl fun H1 hd1 k1 => ?_
      walk_at "pw"
      refine q _ _ (Int.emod_nonneg _ (by omega)) (Int.emod_lt_of_pos _ m0) k1 ⟨cells, _, _, _, _, hd1, k1 _ _ ncd hc, ncd, by omega, by omega, c63, Int.ediv_nonneg (by omega) (by omega), mm0, by omega⟩
theorem ok_law_great (F : Pl K mg "_law_great" s_law_great ["deck", "most"]) (B : Bl mg) (D_law_next : Def P w K mg base 2 "_law_next" ["deck", "many"] spNext) : Def P w K mg base 3 "_law_great" ["deck", "most"] spGreat := by
  refine F.ok sc_law_great (fun vs H Q E h => ?_) (fun f cdv A outer s H vs Q E hr h => ?_)
  · obtain ⟨d, c, m, n, rfl, _⟩ := h
    rfl
  · obtain ⟨d, c, most, n, rfl, m0, D, hn, q⟩ := h
    refine ⟨_, (pss_cons (ps_set (i := 2) sc_law_great.nd rfl (Or.inl rfl) pe_int)
      (pss_cons (ps_for PassesOwn.never rfl (pi_range1 (by rfl) B.range (pa_cons pe_int pa_nil)) (pg_name (i := 3) sc_law_great.nd rfl (Or.inl rfl))
      (pss_one (ps_set (i := 2) sc_law_great.nd rfl (Or.inl rfl) (pe_op op_add (pe_op op_mulX (pv 2) (pe_op op_pow pe_int pe_int)) (pe_df D_law_next hr (by rfl) (pa_cons (pv 0) (pa_cons (pe_op op_pow pe_int pe_int) pa_nil)))))))
      (pss_one (ps_ret (pe_op op_mod (pv 2) (pv 1)))))), ?_⟩
    refine at_st [some (.ref d), some (.int most), none, none] rfl ?_
    walk_at "p0"
    refine ⟨by decide, by decide, for_range (fun i σ H' => ∃ (z : Int) (v : Option V), σ = [some (.ref d), some (.int most), some (.int z), v] ∧ 0 ≤ z ∧ z < 2 ^ (20 * i) ∧ Keep d H H' ∧ DeckAt H' d c (n + i)) ⟨0, none, rfl, by decide, by decide, Keep.refl, D⟩ ?_ ?_⟩
    · rintro i σ H1 hi ⟨z, v, rfl, z0, z1, k1, D1⟩
      have hi8 : i < 8 := hi
      have zb : z.natAbs < 2 ^ 160 := by
        have : (2 : Int) ^ (20 * i) ≤ 2 ^ 140 := by
          have : (2 : Nat) ^ (20 * i) ≤ 2 ^ 140 := Nat.pow_le_pow_right (by decide) (by omega)
          exact_mod_cast this
        have e : (2 : Int) ^ 140 < 2 ^ 160 := by decide
        have e2 : ((2 : Nat) ^ 160 : Nat) = ((2 : Int) ^ 160).toNat := by decide
        omega
      walk_at "pw"
      refine r_I (mulx_of 160 40 zb (by decide) (by decide)) ?_
      walk_at "pw"
      refine ⟨_, _, _, _, rfl, by decide, by decide, D1, by omega, fun r H2 r0 r1 k2 D2 => ?_⟩
      walk_at "pw"
      refine ⟨_, _, rfl, by omega, ?_, k1.trans k2, D2⟩
      have e : (2 : Int) ^ (20 * (i + 1)) = 2 ^ (20 * i) * 1048576 := by
        rw [show 20 * (i + 1) = 20 * i + 20 by omega, Int.pow_add]
        rfl
      rw [e]
      omega
    · rintro σ H1 ⟨z, v, rfl, z0, z1, k1, D1⟩
      walk_at "pw"
      refine r_I m0 ?_
      exact q _ _ (Int.emod_nonneg _ (by omega)) (Int.emod_lt_of_pos _ m0) k1 D1
theorem ok_law_a_power (F : Pl K mg "_law_a_power" s_law_a_power ["deck", "most"]) (B : Bl mg) (D_law_next : Def P w K mg base 2 "_law_next" ["deck", "many"] spNext) (D_law_great : Def P w K mg base 3 "_law_great" ["deck", "most"] spGreat) :
    Def P w K mg base 4 "_law_a_power" ["deck", "most"] spAPower := by
  refine F.ok sc_law_a_power (fun vs H Q E h => ?_) (fun f cdv A outer s H vs Q E hr h => ?_)
  · obtain ⟨d, c, m, n, rfl, _⟩ := h
    rfl
  · obtain ⟨d, c, most, n, rfl, m0, m1, D, hn, q⟩ := h
    refine ⟨_, (pss_cons (ps_set (i := 2) sc_law_a_power.nd rfl (Or.inl rfl) (pe_ix ix_list (pe_lst (pa_cons (pe_op op_add pe_int (pe_df D_law_next hr (by rfl) (pa_cons (pv 0) (pa_cons pe_int pa_nil)))) (pa_cons (pe_op op_add pe_int (pe_df D_law_next hr (by rfl) (pa_cons (pv 0) (pa_cons pe_int pa_nil)))) (pa_cons (pe_op op_add pe_int (pe_df D_law_next hr (by rfl) (pa_cons (pv 0) (pa_cons pe_int pa_nil)))) pa_nil)))) (pe_df D_law_next hr (by rfl) (pa_cons (pv 0) (pa_cons pe_int pa_nil))) (fun _ _ => rfl)))
      (pss_cons (ps_set (i := 3) sc_law_a_power.nd rfl (Or.inl rfl) (pe_op op_add pe_int (pe_df D_law_next hr (by rfl) (pa_cons (pv 0) (pa_cons (pe_op op_add (pe_op op_fdivW pe_int (pe_callB (cr_min2 rfl) (by rfl) B.min (by decide +kernel) (pa_cons pe_int (pa_cons (pv 2) pa_nil)))) pe_int) pa_nil)))))
      (pss_cons (ps_set (i := 4) sc_law_a_power.nd rfl (Or.inl rfl) (pe_op op_add pe_int (pe_df D_law_next hr (by rfl) (pa_cons (pv 0) (pa_cons pe_int pa_nil)))))
      (pss_cons (ps_set (i := 5) sc_law_a_power.nd rfl (Or.inl rfl) (pe_ix ix_list (pe_lst (pa_cons (pv 4) (pa_cons (pv 4) (pa_cons (pe_op op_add pe_int (pe_op op_mod (pe_df D_law_great hr (by rfl) (pa_cons (pv 0) (pa_cons (pe_op op_pow pe_int pe_int) pa_nil))) (pe_op op_shlW pe_int (pe_op op_mulX pe_int (pv 3))))) pa_nil)))) (pe_df D_law_next hr (by rfl) (pa_cons (pv 0) (pa_cons pe_int pa_nil))) (fun _ _ => rfl)))
      (pss_cons (ps_set (i := 6) sc_law_a_power.nd rfl (Or.inl rfl) pe_int)
      (pss_cons (ps_for PassesOwn.never rfl (pi_range1 (by rfl) B.range (pa_cons (pv 2) pa_nil)) (pg_name (i := 7) sc_law_a_power.nd rfl (Or.inl rfl))
      (pss_one (ps_if (pt_cmpR op_le (pe_op op_mulX (pv 6) (pv 5)) (pv 1) (nomark _)) (pss_one (ps_set (i := 6) sc_law_a_power.nd rfl (Or.inl rfl) (pe_op op_mulX (pv 6) (pv 5)))) pss_nil)))
      (pss_one (ps_ret (pv 6))))))))), ?_⟩
    refine at_st [some (.ref d), some (.int most), none, none, none, none, none, none] rfl ?_
    walk_at "p0"
    refine ⟨_, _, _, _, rfl, by decide, by decide, D, by omega, fun r1 H1 r10 r11 k1 D1 => ?_⟩
    walk_at "pw"
    refine ⟨_, _, _, _, rfl, by decide, by decide, D1, by omega, fun r2 H2 r20 r21 k2 D2 => ?_⟩
    walk_at "pw"
    refine ⟨_, _, _, _, rfl, by decide, by decide, D2, by omega, fun r3 H3 r30 r31 k3 D3 => ?_⟩
    walk_at "pw"
    refine newL (by simp) fun p1 H4 np1 hp1 s4 => ?_
    walk_at "pw"
    refine ⟨_, _, _, _, rfl, by decide, by decide, D3.same s4, by omega, fun r4 H5 r40 r41 k5 D5 => ?_⟩
    have hp5 := k5 _ _ (D3.ne np1) hp1
    walk_at "pw"
    obtain ⟨e, he, ha⟩ := at_ints (ns := [2 + r1, 2 + r2, 2 + r3]) r40 r41
    have e2 : 2 ≤ e ∧ e ≤ 200 := by
      simp only [List.mem_cons, List.not_mem_nil, or_false] at he
      omega
    refine r_ixL (SqL.of hp5) ha ?_
    walk_at "pw"
    have em : (if e < 40 then e else 40) = min e 40 := by omega
    rw [em]
    refine r_I (show CDivW _ _ from wide_div (b := 400) (by omega) (by omega) (by decide) (by decide)) ?_
    walk_at "pw"
    have q40 : 0 ≤ 40 / min e 40 ∧ 40 / min e 40 ≤ 40 := ⟨Int.ediv_nonneg (by omega) (by omega), Int.ediv_le_self _ (by omega)⟩
    refine ⟨_, _, _, _, rfl, by omega, by omega, D5, by omega, fun r5 H6 r50 r51 k6 D6 => ?_⟩
    walk_at "pw"
    refine ⟨_, _, _, _, rfl, by decide, by decide, D6, by omega, fun r6 H7 r60 r61 k7 D7 => ?_⟩
    walk_at "pw"
    refine ⟨_, _, _, _, rfl, by decide, D7, by omega, fun r7 H8 r70 r71 k8 D8 => ?_⟩
    walk_at "pw"
    walk_at "pm"
    walk_at "pw"
    refine r_shl1 (by omega) (by omega) fun k8' ek => ?_
    refine r_I (pow2_pos _) ?_
    walk_at "pw"
    have b7 := emod_le (a := r7) (b := 2 ^ k8') r70 (Int.le_of_lt (pow2_pos _))
    have b7' := Int.emod_nonneg r7 (Int.ne_of_gt (pow2_pos k8'))
    generalize r7 % 2 ^ k8' = r7' at *
    refine newL (by simp) fun p2 H9 np2 hp2 s9 => ?_
    walk_at "pw"
    refine ⟨_, _, _, _, rfl, by decide, by decide, D8.same s9, by omega, fun r8 H10 r80 r81 k10 D10 => ?_⟩
    have hp10 := k10 _ _ (D8.ne np2) hp2
    walk_at "pw"
    obtain ⟨b, hb, hab⟩ := at_ints (ns := [2 + r6, 2 + r6, 1 + r7']) r80 r81
    have b2 : 0 < b ∧ b.natAbs < 2 ^ 200 := by
      simp only [List.mem_cons, List.not_mem_nil, or_false] at hb
      omega
    refine r_ixL (SqL.of hp10) hab ?_
    walk_at "pw"
    have keep : Keep d H H10 := k1.trans (k2.trans (k3.trans ((Keep.of s4).trans (k5.trans (k6.trans (k7.trans (k8.trans ((Keep.of s9).trans k10))))))))
    refine ⟨by omega, by omega, for_range (fun i σ H' => ∃ (z : Int) (v : Option V), σ = [some (.ref d), some (.int most), some (.int e), some (.int (1 + r5)), some (.int (2 + r6)), some (.int b), some (.int z), v] ∧ 0 < z ∧ z ≤ most ∧ H' = H10) ⟨1, none, rfl, by decide, by omega, rfl⟩ ?_ ?_⟩
    · rintro i σ H11 hi ⟨z, v, rfl, z0, z1, rfl⟩
      walk_at "pw"
      refine r_I (mulx_of 201 201 (by omega) (by omega) (by decide)) ?_
      walk_at "pw"
      refine r_ite (fun hle => ?_) (fun _ => ?_)
      · walk_at "pw"
        refine r_I (mulx_of 201 201 (by omega) (by omega) (by decide)) ?_
        exact ⟨z * b, _, rfl, mul_pos1 z0 b2.1, hle, rfl⟩
      · walk_at "pw"
        exact ⟨z, _, rfl, z0, z1, rfl⟩
    · rintro σ H11 ⟨z, v, rfl, z0, z1, rfl⟩
      walk_at "pw"
      exact q _ _ z0 z1 keep (D10.mono (by omega))
theorem ok_law_number (F : Pl K mg "_law_number" s_law_number ["deck", "most"]) (B : Bl mg) (D_law_next : Def P w K mg base 2 "_law_next" ["deck", "many"] spNext) (D_law_great : Def P w K mg base 3 "_law_great" ["deck", "most"] spGreat) (D_law_a_power : Def P w K mg base 4 "_law_a_power" ["deck", "most"] spAPower) :
    Def P w K mg base 5 "_law_number" ["deck", "most"] spNumber := by
  refine F.ok sc_law_number (fun vs H Q E h => ?_) (fun f cdv A outer s H vs Q E hr h => ?_)
  · obtain ⟨d, c, m, n, rfl, _⟩ := h
    rfl
  · obtain ⟨d, c, most, n, rfl, m0, m1, D, hn, q⟩ := h
    refine ⟨_, (pss_cons (ps_set (i := 2) sc_law_number.nd rfl (Or.inl rfl) (pe_op op_sub (pe_op op_add (pe_df D_law_a_power hr (by rfl) (pa_cons (pv 0) (pa_cons (pv 1) pa_nil))) (pe_df D_law_next hr (by rfl) (pa_cons (pv 0) (pa_cons pe_int pa_nil)))) pe_int))
      (pss_cons (ps_set (i := 3) sc_law_number.nd rfl (Or.inl rfl) (pe_lst (pa_cons (pe_df D_law_next hr (by rfl) (pa_cons (pv 0) (pa_cons pe_int pa_nil))) (pa_cons (pe_df D_law_great hr (by rfl) (pa_cons (pv 0) (pa_cons (pe_op op_add (pv 1) pe_int) pa_nil))) (pa_cons (pe_df D_law_a_power hr (by rfl) (pa_cons (pv 0) (pa_cons (pv 1) pa_nil))) (pa_cons (pv 2) (pa_cons (pe_op op_sub (pv 1) (pe_df D_law_next hr (by rfl) (pa_cons (pv 0) (pa_cons pe_int pa_nil)))) pa_nil)))))))
      (pss_one (ps_ret (pe_callB (cr_min2 rfl) (by rfl) B.min (by decide +kernel) (pa_cons (pv 1) (pa_cons (pe_callB (cr_max2 rfl) (by rfl) B.max (by decide +kernel) (pa_cons pe_int (pa_cons (pe_ix ix_list (pv 3) (pe_df D_law_next hr (by rfl) (pa_cons (pv 0) (pa_cons pe_int pa_nil))) (fun _ _ => rfl)) pa_nil))) pa_nil))))))), ?_⟩
    refine at_st [some (.ref d), some (.int most), none, none] rfl ?_
    walk_at "p0"
    refine ⟨_, _, _, _, rfl, m0, by omega, D, by omega, fun r1 H1 r10 r11 k1 D1 => ?_⟩
    walk_at "pw"
    refine ⟨_, _, _, _, rfl, by decide, by decide, D1, by omega, fun r2 H2 r20 r21 k2 D2 => ?_⟩
    walk_at "pw"
    refine ⟨_, _, _, _, rfl, by decide, by decide, D2, by omega, fun r3 H3 r30 r31 k3 D3 => ?_⟩
    walk_at "pw"
    refine ⟨_, _, _, _, rfl, by omega, D3, by omega, fun r4 H4 r40 r41 k4 D4 => ?_⟩
    walk_at "pw"
    refine ⟨_, _, _, _, rfl, by omega, by omega, D4, by omega, fun r5 H5 r50 r51 k5 D5 => ?_⟩
    walk_at "pw"
    refine ⟨_, _, _, _, rfl, by decide, by decide, D5, by omega, fun r6 H6 r60 r61 k6 D6 => ?_⟩
    walk_at "pw"
    refine newL (by simp) fun p1 H7 np1 hp1 s7 => ?_
    walk_at "pw"
    refine ⟨_, _, _, _, rfl, by decide, by decide, D6.same s7, by omega, fun r8 H8 r80 r81 k8 D8 => ?_⟩
    have hp8 := k8 _ _ (D6.ne np1) hp1
    walk_at "pw"
    obtain ⟨b, hb, hab⟩ := at_ints (ns := [r3, r4, r5, r1 + r2 - 2, most - r6]) r80 r81
    refine r_ixL (SqL.of hp8) hab ?_
    walk_at "pw"
    refine q _ _ (by omega) (by omega) (k1.trans (k2.trans (k3.trans (k4.trans (k5.trans (k6.trans ((Keep.of s7).trans k8))))))) (D8.mono (by omega))
end
end K05

namespace K05
open PySem PySem.Spec PyProof.Rows L2 Pw SX
section
variable {P : Program} {w : World} {K : PySem.W.Frag} {mg : Str → Option Value} {base : Heap}
theorem ok_taken (F : Pl K mg "taken" s_taken ["base", "exponent"]) (B : Bl mg) : Def P w K mg base 1 "taken" ["base", "exponent"] spTaken := by
  refine F.ok sc_taken (fun vs H Q E h => ?_) (fun f cdv A outer s H vs Q E hr h => ?_)
  · obtain ⟨c, k, a, rfl, _⟩ := h
    rfl
  · obtain ⟨b, e, a, rfl, hb, hae, he, q⟩ := h
    refine ⟨_, (pss_cons (ps_set (i := 2) sc_taken.nd rfl (Or.inl rfl) pe_int)
      (pss_cons (ps_for PassesOwn.never rfl (pi_revR (by rfl) B.reversed (prg_1 (by rfl) B.range (pe_bits (pv 1)))) (pg_name (i := 3) sc_taken.nd rfl (Or.inl rfl))
      (pss_cons (ps_set (i := 2) sc_taken.nd rfl (Or.inl rfl) (pe_op op_mulX (pv 2) (pv 2)))
      (pss_one (ps_if (pt_tru (pe_op op_oddN (pe_op op_shr (pv 1) (pv 3)) pe_int) (by intro _; rfl)) (pss_one (ps_set (i := 2) sc_taken.nd rfl (Or.inl rfl) (pe_op op_mulX (pv 2) (pv 0)))) pss_nil))))
      (pss_one (ps_ret (pv 2))))), ?_⟩
    refine at_st [some (.int b), some (.int e), none, none] rfl ?_
    walk_at "p0"
    have hL1 := bits_lt e
    have hL2 := bits_le he
    generalize Builtin.Int.intBits (e : Int) = L at *
    rw [show ((L : Int) - 0).toNat = L by omega]
    refine ⟨by decide, by decide, by omega, by omega, for_rangeC (fun i σ H' => ∃ (v : Option V), i ≤ L ∧ σ = [some (.int b), some (.int e), some (.int ((b ^ (e / 2 ^ (L - i)) : Nat) : Int)), v] ∧ H' = H) ⟨none, Nat.zero_le _, ?_, rfl⟩ ?_ ?_⟩
    · rw [Nat.sub_zero, Nat.div_eq_of_lt hL1]
      rfl
    · rintro i σ H1 hi ⟨v, _, rfl, rfl⟩
      obtain ⟨p, hp⟩ : ∃ p, L - i = p + 1 := ⟨L - i - 1, by omega⟩
      have hp' : L - (i + 1) = p := by omega
      have item : (0 : Int) + (L : Int) - 1 + (i : Int) * -1 = (p : Int) := by omega
      rw [item, hp]
      have le1 : e / 2 ^ (p + 1) ≤ e := Nat.div_le_self _ _
      walk_at "pw"
      refine r_I (mulx_pows hb hae le1 le1) ?_
      walk_at "pw"
      refine r_I (by omega) ?_
      walk_at "pw"
      have e1 : ((e : Int)) / 2 ^ ((p : Int)).toNat = ((e / 2 ^ p : Nat) : Int) := by
        rw [Int.toNat_natCast]
        exact_mod_cast rfl
      refine r_odd e1 ?_
      walk_at "pw"
      have pt := pow_at (b := b) (e := e) (p := p)
      have m2 : b ^ (e / 2 ^ (p + 1)) * b ^ (e / 2 ^ (p + 1)) ≤ 2 ^ (a * e) := by
        rw [← Nat.pow_add]
        refine Pm.pow_bound hb ?_
        have := Nat.div_mul_le_self e (2 ^ (p + 1))
        have h2 : e / 2 ^ (p + 1) = e / 2 ^ p / 2 := by rw [Nat.pow_succ, Nat.div_div_eq_div_mul]
        have h3 : e / 2 ^ p ≤ e := Nat.div_le_self _ _
        omega
      refine r_bne (fun h1 => ?_) (fun h1 => ?_)
      · have h1' : e / 2 ^ p % 2 = 1 := by omega
        rw [if_pos h1'] at pt
        walk_at "pw"
        have hb1 : b ≤ 2 ^ a := Nat.le_of_lt hb
        have a1 : a ≤ a * e ∨ e = 0 := by
          rcases Nat.eq_zero_or_pos e with z | z
          · exact .inr z
          · exact .inl (Nat.le_mul_of_pos_right _ z)
        have a1' : a ≤ a * e := by
          rcases a1 with z | z
          · exact z
          · rw [z, Nat.zero_div] at h1'
            exact absurd h1' (by decide)
        refine r_I ?_ ?_
        · have := mulx_nat (n := b ^ (e / 2 ^ (p + 1)) * b ^ (e / 2 ^ (p + 1))) (m := b) (a * e) (a * e) m2 (Nat.le_trans hb1 (Nat.pow_le_pow_right (by decide) a1')) (by omega)
          rw [Int.natCast_mul] at this
          exact this
        · refine ⟨some (.int p), by omega, ?_, rfl⟩
          rw [hp', pt]
          push_cast
          rfl
      · have h1' : ¬ e / 2 ^ p % 2 = 1 := by omega
        rw [if_neg h1'] at pt
        walk_at "pw"
        refine ⟨some (.int p), by omega, ?_, rfl⟩
        rw [hp', pt]
        push_cast
        rfl
    · rintro σ H1 ⟨v, _, rfl, rfl⟩
      walk_at "pw"
      rw [Nat.sub_self, Nat.pow_zero, Nat.div_one]
      exact q
end
end K05

namespace K05
open PySem PySem.Spec PyProof.Rows L2 Pw SX
section
variable {P : Program} {w : World} {K : PySem.W.Frag} {mg : Str → Option Value} {base : Heap}
theorem ok_newton_step (F : Pl K mg "_newton_step" s_newton_step ["number", "exponent", "root"]) (D_taken : Def P w K mg base 1 "taken" ["base", "exponent"] spTaken) : Def P w K mg base 2 "_newton_step" ["number", "exponent", "root"] spStep := by
  refine F.ok sc_newton_step (fun vs H Q E h => ?_) (fun f cdv A outer s H vs Q E hr h => ?_)
  · obtain ⟨n, m, x, s, rfl, _⟩ := h
    rfl
  · obtain ⟨n, m, x, s, rfl, x0, xs, sm, hm, hs, q⟩ := h
    refine ⟨_, (pss_one (ps_ret (pe_op op_fdivW (pe_op op_add (pe_op op_mulX (pe_op op_sub (pv 1) pe_int) (pv 2)) (pe_op op_fdivW (pv 0) (pe_df D_taken hr (by rfl) (pa_cons (pv 2) (pa_cons (pe_op op_sub (pv 1) pe_int) pa_nil))))) (pv 1)))), ?_⟩
    refine at_st [some (.int n), some (.int ((m + 1 : Nat) : Int)), some (.int x)] rfl ?_
    walk_at "p0"
    rw [show (((m + 1 : Nat) : Int) - 1) = (m : Int) by omega]
    refine r_I (mulx_nat 20 s (by omega) xs (by omega)) ?_
    walk_at "pw"
    rw [show (((m + 1 : Nat) : Int) - 1) = (m : Int) by omega]
    have x1 : x < 2 ^ (s + 1) := Nat.lt_of_le_of_lt xs (Nat.pow_lt_pow_right (by decide) (Nat.lt_succ_self s))
    refine ⟨_, _, s + 1, rfl, x1, ?_, by omega, ?_⟩
    · rw [Nat.succ_mul]
      omega
    have hp : 0 < x ^ m := Nat.pow_pos x0
    have hp2 : x ^ m < 2 ^ 8901 := by
      refine Nat.lt_of_le_of_lt (Nat.pow_le_pow_left xs m) ?_
      rw [← Nat.pow_mul]
      exact Nat.pow_lt_pow_right (by decide) (by omega)
    refine r_I (wide_div (b := 8901) (by exact_mod_cast hp) (cast_lt hp2) (by decide) (by decide)) ?_
    walk_at "pw"
    refine r_I (wide_div (b := 20) (by omega) (by omega) (by decide) (by decide)) ?_
    have e : ((m : Int) * (x : Int) + (n : Int) / ((x ^ m : Nat) : Int)) / ((m + 1 : Nat) : Int) = ((Pm.step n m x : Nat) : Int) := by
      unfold Pm.step
      push_cast
      rfl
    rw [e]
    exact q
theorem ok_root (F : Pl K mg "_root" s_root ["number", "exponent"]) (M_isqrt : mg "isqrt" = some (.builtin "math.isqrt")) (D_newton_step : Def P w K mg base 2 "_newton_step" ["number", "exponent", "root"] spStep) : Def P w K mg base 3 "_root" ["number", "exponent"] spRoot := by
  refine F.ok sc_root (fun vs H Q E h => ?_) (fun f cdv A outer s H vs Q E hr h => ?_)
  · obtain ⟨n, e, rfl, _⟩ := h
    rfl
  · obtain ⟨n, e, rfl, e0, e1, n1, q⟩ := h
    refine ⟨_, (pss_cons (ps_if (PW.pt (pw_or (pt_cmpR op_eq (pv 1) pe_int (nomark _)) (pw_or1 (pt_cmpR op_lt (pv 0) pe_int (nomark _))))) (pss_one (ps_ret (pv 0))) pss_nil)
      (pss_cons (ps_if (pt_cmpR op_eq (pv 1) pe_int (nomark _)) (pss_one (ps_ret (pe_callBfun cr_isqrt (by rfl) M_isqrt (pa_cons (pv 0) pa_nil)))) pss_nil)
      (pss_cons (ps_set (i := 2) sc_root.nd rfl (Or.inl rfl) (pe_bits (pv 0)))
      (pss_cons (ps_if (pt_cmpR op_le (pv 2) (pv 1) (nomark _)) (pss_one (ps_ret pe_int)) pss_nil)
      (pss_cons (ps_set (i := 3) sc_root.nd rfl (Or.inl rfl) (pe_op op_shlW pe_int (pe_op op_add (pe_op op_fdivW (pe_op op_sub (pv 2) pe_int) (pv 1)) pe_int)))
      (pss_cons (ps_set (i := 4) sc_root.nd rfl (Or.inl rfl) (pe_df D_newton_step hr (by rfl) (pa_cons (pv 0) (pa_cons (pv 1) (pa_cons (pv 3) pa_nil)))))
      (pss_cons (ps_while PassesOwn.never (pt_cmpR op_lt (pv 4) (pv 3) (nomark _)) (pss_cons (ps_set (i := 3) sc_root.nd rfl (Or.inl rfl) (pv 4))
      (pss_one (ps_set (i := 4) sc_root.nd rfl (Or.inl rfl) (pe_df D_newton_step hr (by rfl) (pa_cons (pv 0) (pa_cons (pv 1) (pa_cons (pv 3) pa_nil))))))))
      (pss_one (ps_ret (pv 3)))))))))), ?_⟩
    refine at_st [some (.int n), some (.int e), none, none, none] rfl ?_
    walk_at "p0"
    refine r_iteI (fun h1 => ?_) (fun h1 => ?_)
    · have : e = 1 := by omega
      subst this
      walk_at "pw"
      exact q n ⟨by rw [Nat.pow_one]; exact Nat.le_refl _, by rw [Nat.pow_one]; exact Nat.lt_succ_self _⟩
    · walk_at "pw"
      refine r_ite (fun h2 => ?_) (fun h2 => ?_)
      · walk_at "pw"
        refine q n ?_
        have : n = 0 ∨ n = 1 := by omega
        rcases this with rfl | rfl
        · exact ⟨by rw [Nat.zero_pow e0]; exact Nat.le_refl _, by rw [Nat.zero_add, Nat.one_pow]; exact Nat.one_pos⟩
        · exact ⟨by rw [Nat.one_pow]; exact Nat.le_refl _, Nat.one_lt_pow (by omega) (by decide)⟩
      · walk_at "pw"
        refine r_iteI (fun h3 => ?_) (fun h3 => ?_)
        · have : e = 2 := by omega
          subst this
          walk_at "pw"
          refine r_isqrt (Nat.lt_trans n1 (Nat.pow_lt_pow_right (by decide) (by decide))) fun r r1 r2 => ?_
          exact q r ⟨by rw [Nat.pow_two]; exact r1, by rw [Nat.pow_two]; exact r2⟩
        · walk_at "pw"
          have hL1 := bits_lt n
          have hL2 := bits_le n1
          have hL3 := (bits_ge (n := n) (by omega)).2
          generalize Builtin.Int.intBits (n : Int) = L at *
          refine r_ite (fun h4 => ?_) (fun h4 => ?_)
          · walk_at "pw"
            refine q 1 ⟨by rw [Nat.one_pow]; omega, Nat.lt_of_lt_of_le hL1 (Nat.pow_le_pow_right (by decide) (by omega))⟩
          · walk_at "pw"
            refine r_I (wide_div (b := 20) (by omega) (by omega) (by decide) (by decide)) ?_
            walk_at "pw"
            have eq1 : ((L : Int) - 1) / (e : Int) = (((L - 1) / e : Nat) : Int) := by
              rw [show (L : Int) - 1 = ((L - 1 : Nat) : Int) by omega]
              exact_mod_cast rfl
            rw [eq1]
            have le1 : (L - 1) / e ≤ L - 1 := Nat.div_le_self _ _
            obtain ⟨qd, hqd⟩ : ∃ qd, qd = (L - 1) / e := ⟨_, rfl⟩
            rw [← hqd] at le1 ⊢
            refine r_shl1 (by omega) (by omega) fun k ek => ?_
            have ek' : k = (L - 1) / e + 1 := by omega
            obtain ⟨m, rfl⟩ : ∃ m, e = m + 1 := ⟨e - 1, by omega⟩
            have sb := s_bound (L := L) (e := m + 1) (by omega) ek'
            rw [Nat.add_sub_cancel] at sb
            have st := root_start (n := n) (e := m + 1) (L := L) (by omega) (by omega) hL1
            rw [← ek'] at st
            have e2k : (2 : Int) ^ k = ((2 ^ k : Nat) : Int) := by push_cast; rfl
            rw [e2k]
            walk_at "pw"
            refine ⟨n, m, 2 ^ k, k, rfl, Nat.pow_pos (by decide), Nat.le_refl _, by omega, by omega, by omega, ?_⟩
            walk_at "pw"
            refine r_while (fun σ H' => ∃ x : Nat, σ = [some (.int n), some (.int ((m + 1 : Nat) : Int)), some (.int L), some (.int x), some (.int (Pm.step n m x : Nat))] ∧ 0 < x ∧ x ≤ 2 ^ k ∧ n < (x + 1) ^ (m + 1) ∧ H' = H) (fun σ _ => meas σ)
              ⟨2 ^ k, rfl, Nat.pow_pos (by decide), Nat.le_refl _, st, rfl⟩ ?_ mono_vv
            rintro σ H1 ⟨x, rfl, x0, x1, x2, rfl⟩ N hN
            walk_at "pw"
            refine r_ite (fun h5 => ?_) (fun h5 => ?_)
            · walk_at "pw"
              have sp0 := step_pos (n := n) (m := m) (x := x) (by omega) x0
              refine ⟨n, m, Pm.step n m x, k, rfl, sp0, by omega, by omega, by omega, by omega, ?_⟩
              refine hN _ _ ⟨Pm.step n m x, rfl, sp0, by omega, Pm.step_up x0, rfl⟩ ?_
              show ((Pm.step n m x : Nat) : Int).toNat < ((x : Nat) : Int).toNat
              omega
            · walk_at "pw"
              exact q x (root_done x0 x2 (by omega))
theorem ok_root_of (F : Pl K mg "root_of" s_root_of ["number", "exponent"]) (D_root : Def P w K mg base 3 "_root" ["number", "exponent"] spRoot) (D_taken : Def P w K mg base 1 "taken" ["base", "exponent"] spTaken) : Def P w K mg base 4 "root_of" ["number", "exponent"] spRootOf := by
  refine F.ok sc_root_of (fun vs H Q E h => ?_) (fun f cdv A outer s H vs Q E hr h => ?_)
  · obtain ⟨n, e, rfl, _⟩ := h
    rfl
  · obtain ⟨n, e, rfl, e0, e1, n1, q⟩ := h
    refine ⟨_, (pss_cons (ps_set (i := 2) sc_root_of.nd rfl (Or.inl rfl) (pe_df D_root hr (by rfl) (pa_cons (pv 0) (pa_cons (pv 1) pa_nil))))
      (pss_one (ps_ret (pe_tup (pa_cons (pv 2) (pa_cons (pe_op op_sub (pv 0) (pe_df D_taken hr (by rfl) (pa_cons (pv 2) (pa_cons (pv 1) pa_nil)))) pa_nil)))))), ?_⟩
    refine at_st [some (.int n), some (.int e), none] rfl ?_
    walk_at "p0"
    refine ⟨n, e, rfl, e0, by omega, n1, fun r hr1 => ?_⟩
    walk_at "pw"
    have r1 : r ≤ n := by
      refine Nat.le_trans ?_ hr1.1
      rcases Nat.eq_zero_or_pos r with z | z
      · rw [z]; exact Nat.zero_le _
      · exact Nat.le_self_pow (by omega) r
    refine ⟨r, e, 4000, rfl, Nat.lt_of_le_of_lt r1 n1, by omega, by omega, ?_⟩
    walk_at "pw"
    refine newT (by simp) fun p H1 np hp s1 => ?_
    exact q r p H1 hr1 np s1 hp
end
end K05

namespace K05
open PySem PySem.Spec PyProof.Rows L2 Pw SX TL
section
variable {P : Program} {w : World} {K : PySem.W.Frag} {mg : Str → Option Value} {base : Heap}
theorem ok_is_prime (F : Pl K mg "_is_prime" s_is_prime ["number"]) (B : Bl mg) (M_isqrt : mg "isqrt" = some (.builtin "math.isqrt")) : Def P w K mg base 1 "_is_prime" ["number"] spIsPrime := by
  refine F.ok sc_is_prime (fun vs H Q E h => ?_) (fun f cdv A outer s H vs Q E hr h => ?_)
  · obtain ⟨n, rfl, _⟩ := h
    rfl
  · obtain ⟨n, rfl, n2, nb, q⟩ := h
    refine ⟨_, (pss_cons (ps_for PassesOwn.never rfl (pi_range2 (by rfl) B.range (pa_cons pe_int (pa_cons (pe_op op_add (pe_callBfun cr_isqrt (by rfl) M_isqrt (pa_cons (pv 0) pa_nil)) pe_int) pa_nil))) (pg_name (i := 1) sc_is_prime.nd rfl (Or.inl rfl))
      (pss_one (ps_if (pt_cmpR op_eq (pe_op op_mod (pv 0) (pv 1)) pe_int (nomark _)) (pss_one (ps_ret pe_bl)) pss_nil)))
      (pss_one (ps_ret pe_bl))), ?_⟩
    refine at_st [some (.int n), none] rfl ?_
    walk_at "p0"
    refine r_isqrt (Nat.lt_of_le_of_lt nb (Nat.pow_lt_pow_right (by decide) (by decide))) fun r r1 r2 => ?_
    walk_at "pw"
    have rn : r ≤ n := Nat.le_trans (Nat.le_mul_self r) r1
    refine ⟨by omega, for_range (fun i σ H' => ∃ v : Option V, σ = [some (.int n), v] ∧ (∀ d, 2 ≤ d → d < 2 + i → ¬ d ∣ n) ∧ H' = H) ⟨none, rfl, fun d a b => absurd a (by omega), rfl⟩ ?_ ?_⟩
    · rintro i σ H1 hi ⟨v, rfl, hno, rfl⟩
      rw [show (2 : Int) + (i : Int) = ((2 + i : Nat) : Int) by omega]
      walk_at "pw"
      refine r_I (by omega) ?_
      walk_at "pw"
      rw [emod_nat]
      refine r_iteI (fun e => ?_) (fun e => ?_)
      · walk_at "pw"
        have hd : 2 + i ∣ n := Nat.dvd_of_mod_eq_zero (by omega)
        refine q false ⟨(fun z => nomatch z), fun hp => absurd hp (Pm.not_prime_of (by omega) ?_ hd)⟩
        refine Nat.le_trans (Nat.mul_le_mul (show 2 + i ≤ r by omega) (show 2 + i ≤ r by omega)) r1
      · walk_at "pw"
        refine ⟨_, rfl, fun d a b hd => ?_, rfl⟩
        rcases Nat.lt_or_ge d (2 + i) with z | z
        · exact hno d a z hd
        · have : d = 2 + i := by omega
          subst this
          exact e (by rw [Nat.mod_eq_zero_of_dvd hd]; rfl)
    · rintro σ H1 ⟨v, rfl, hno, rfl⟩
      walk_at "pw"
      refine q true ⟨fun _ => Pm.prime_of_trial n2 fun d a b => hno d a ?_, fun _ => rfl⟩
      have : d < r + 1 := Nat.lt_of_not_le fun h => absurd (Nat.mul_le_mul h h) (by omega)
      omega
theorem ok_next_prime (F : Pl K mg "next_prime" s_next_prime ["number"]) (D_is_prime : Def P w K mg base 1 "_is_prime" ["number"] spIsPrime) : Def P w K mg base 2 "next_prime" ["number"] spNextPrime := by
  refine F.ok sc_next_prime (fun vs H Q E h => ?_) (fun f cdv A outer s H vs Q E hr h => ?_)
  · obtain ⟨n, rfl, _⟩ := h
    rfl
  · obtain ⟨n, rfl, n2, nb, q⟩ := h
    refine ⟨_, (pss_cons (ps_set (i := 1) sc_next_prime.nd rfl (Or.inl rfl) (pe_op op_add (pv 0) pe_int))
      (pss_cons (ps_while PassesOwn.never (pt_not (pt_val (pe_df D_is_prime hr (by rfl) (pa_cons (pv 1) pa_nil)))) (pss_one (ps_aug (i := 1) sc_next_prime.nd rfl (Or.inl rfl) pe_int ip_add)))
      (pss_one (ps_ret (pv 1))))), ?_⟩
    refine at_st [some (.int n), none] rfl ?_
    walk_at "p0"
    refine r_whl (fun σ H' => ∃ k : Nat, σ = [some (.int n), some (.int k)] ∧ n < k ∧ k ≤ 211 ∧ (∀ q, Pm.Prime q → n < q → k ≤ q) ∧ H' = H) (fun σ _ => match σ with | [_, some (.int k)] => 211 - k.toNat | _ => 0)
      ⟨n + 1, by push_cast; rfl, by omega, by omega, fun q _ h => h, rfl⟩ ?_
    rintro σ H1 ⟨k, rfl, nk, k211, hmin, rfl⟩
    walk_at "pw"
    refine ⟨k, rfl, by omega, by omega, fun b hb => ?_⟩
    walk_at "pw"
    cases b with
    | true =>
      walk_at "pw"
      exact q k nk k211 (hb.mp rfl) hmin
    | false =>
      have hnp : ¬ Pm.Prime k := fun z => nomatch hb.mpr z
      have hk : k ≠ 211 := fun z => hnp (by rw [z]; exact prime211)
      walk_at "pw"
      refine whileGo fun N hN => ?_
      walk_at "pw"
      refine hN _ _ ⟨k + 1, by push_cast; rfl, by omega, by omega, fun p hp h => ?_, rfl⟩ ?_
      · have := hmin p hp h
        have : p ≠ k := fun z => hnp (z ▸ hp)
        omega
      · show 211 - ((k : Int) + 1).toNat < 211 - ((k : Nat) : Int).toNat
        omega
end
end K05

namespace K05
open PySem PySem.Spec PyProof.Rows L2 Pw SX TL
section
variable {P : Program} {w : World} {K : PySem.W.Frag} {mg : Str → Option Value} {base : Heap}
theorem ok_greatest_way (F : Pl K mg "greatest_way" s_greatest_way ["number"]) (D_root_of : Def P w K mg base 4 "root_of" ["number", "exponent"] spRootOf) (D_next_prime : Def P w K mg base 2 "next_prime" ["number"] spNextPrime) : Def P w K mg base 5 "greatest_way" ["number"] spGreatest := by
  refine F.ok sc_greatest_way (fun vs H Q E h => ?_) (fun f cdv A outer s H vs Q E hr h => ?_)
  · obtain ⟨n, rfl, _⟩ := h
    rfl
  · obtain ⟨n, rfl, nb, q⟩ := h
    refine ⟨_, (pss_cons (ps_if (pt_cmpR op_eq (pv 0) pe_int (nomark _)) (pss_one (ps_ret (pe_tup (pa_cons pe_int (pa_cons pe_int pa_nil))))) pss_nil)
      (pss_cons (ps_if (pt_cmpR op_eq (pv 0) pe_int (nomark _)) (pss_one (ps_ret (pe_tup (pa_cons pe_int (pa_cons pe_int pa_nil))))) pss_nil)
      (pss_cons (ps_set (i := 1) sc_greatest_way.nd rfl (Or.inl rfl) (pv 0))
      (pss_cons (ps_set (i := 2) sc_greatest_way.nd rfl (Or.inl rfl) pe_int)
      (pss_cons (ps_set (i := 3) sc_greatest_way.nd rfl (Or.inl rfl) pe_int)
      (pss_cons (ps_while PassesOwn.never (pt_cmpR op_lt (pv 3) (pe_bits (pv 1)) (nomark _)) (pss_cons (ps_asg (pe_df D_root_of hr (by rfl) (pa_cons (pv 1) (pa_cons (pv 3) pa_nil))) (pg_tup (by rfl) (pgs_cons (pg_name (i := 4) sc_greatest_way.nd rfl (Or.inl rfl)) (pgs_cons (pg_name (i := 5) sc_greatest_way.nd rfl (Or.inl rfl)) pgs_nil))))
      (pss_one (ps_if (pt_cmpR op_eq (pv 5) pe_int (nomark _)) (pss_cons (ps_set (i := 1) sc_greatest_way.nd rfl (Or.inl rfl) (pv 4))
      (pss_one (ps_set (i := 2) sc_greatest_way.nd rfl (Or.inl rfl) (pe_op op_mulX (pv 2) (pv 3))))) (pss_one (ps_set (i := 3) sc_greatest_way.nd rfl (Or.inl rfl) (pe_df D_next_prime hr (by rfl) (pa_cons (pv 3) pa_nil))))))))
      (pss_one (ps_ret (pe_tup (pa_cons (pv 1) (pa_cons (pv 2) pa_nil))))))))))), ?_⟩
    refine at_st [some (.int n), none, none, none, none, none] rfl ?_
    walk_at "p0"
    refine r_iteI (fun e => ?_) (fun n0 => ?_)
    · have : n = 0 := by omega
      subst this
      walk_at "pw"
      exact newT (by simp) fun p H1 np hp s1 => q 0 1 p H1 (.inl ⟨rfl, rfl, rfl⟩) np s1 hp
    walk_at "pw"
    refine r_iteI (fun e => ?_) (fun n1 => ?_)
    · have : n = 1 := by omega
      subst this
      walk_at "pw"
      exact newT (by simp) fun p H1 np hp s1 => q 1 2 p H1 (.inr (.inl ⟨rfl, rfl, rfl⟩)) np s1 hp
    walk_at "pw"
    refine r_whl (fun σ H' => ∃ (b g p : Nat) (v4 v5 : Option V), σ = [some (.int n), some (.int b), some (.int g), some (.int p), v4, v5] ∧ 2 ≤ b ∧ b ≤ n ∧ 1 ≤ g ∧ g ≤ 200 ∧ b ^ g = n ∧ Pm.Prime p ∧ p ≤ 211 ∧ (∀ q, Pm.Prime q → q < p → ∀ c, c ^ q ≠ b) ∧ Same H H')
      (fun σ _ => match σ with | [_, some (.int b), _, some (.int p), _, _] => b.toNat + (1000 - p.toNat) | _ => 0)
      ⟨n, 1, 2, none, none, rfl, by omega, Nat.le_refl _, Nat.le_refl _, by decide, Nat.pow_one n, prime2, by decide, fun q hq h => absurd hq.1 (by omega), Same.refl _⟩ ?_
    rintro σ H1 ⟨b, g, p, v4, v5, rfl, b2, bn, g1, g200, bg, hp, p211, hno, s1⟩
    have bb : b < 2 ^ 190 := Nat.lt_of_le_of_lt bn nb
    walk_at "pw"
    have hL1 := bits_lt b
    have hL2 := bits_le bb
    generalize Builtin.Int.intBits (b : Int) = L at *
    refine r_ite (fun hlt => ?_) (fun hge => ?_)
    · refine whileGo fun N hN => ?_
      walk_at "pw"
      refine ⟨b, p, rfl, by have := hp.1; omega, by omega, Nat.lt_trans bb (Nat.pow_lt_pow_right (by decide) (by decide)), fun r a H2 hr np s2 ha => ?_⟩
      refine r_gTup2 ha ?_
      walk_at "pw"
      have hr1 := hr.1
      refine r_iteI (fun e => ?_) (fun e => ?_)
      · have erp : r ^ p = b := by omega
        have r2 : 2 ≤ r := by
          refine Nat.le_of_not_lt fun z => ?_
          have : r = 0 ∨ r = 1 := by omega
          have hp2 := hp.1
          rcases this with rfl | rfl
          · rw [Nat.zero_pow (by omega)] at erp
            omega
          · rw [Nat.one_pow] at erp
            omega
        have hp2 := hp.1
        have rb : r < b := by
          rw [← erp]
          exact Nat.lt_of_lt_of_le (show r < r ^ 2 by rw [Nat.pow_two]; exact Nat.lt_mul_self_iff.mpr (by omega)) (Nat.pow_le_pow_right (by omega) hp2)
        have gp : r ^ (p * g) = n := by rw [Nat.pow_mul, erp, bg]
        have gp200 : p * g ≤ 200 := by
          refine Nat.le_of_not_lt fun z => ?_
          have h1 : 2 ^ (p * g) ≤ r ^ (p * g) := Nat.pow_le_pow_left r2 _
          have h3 : (2 : Nat) ^ 190 ≤ 2 ^ (p * g) := Nat.pow_le_pow_right (by decide) (by omega)
          omega
        walk_at "pw"
        refine r_I (mulx_nat 20 20 (by omega) (by omega) (by decide)) ?_
        walk_at "pw"
        refine hN _ _ ⟨r, g * p, p, _, _, by push_cast; rfl, r2, by omega, Nat.mul_pos g1 (by omega), by rw [Nat.mul_comm]; exact gp200, by rw [Nat.mul_comm]; exact gp, hp, p211, fun q hq hlt2 c e2 => ?_, s1.trans s2⟩ ?_
        · refine hno q hq hlt2 (c ^ p) ?_
          rw [← Nat.pow_mul, Nat.mul_comm, Nat.pow_mul, e2, erp]
        · show ((r : Nat) : Int).toNat + (1000 - ((p : Nat) : Int).toNat) < ((b : Nat) : Int).toNat + (1000 - ((p : Nat) : Int).toNat)
          omega
      · walk_at "pw"
        refine ⟨p, rfl, hp.1, by omega, fun p' pp' p'211 hp' hmin => ?_⟩
        walk_at "pw"
        refine hN _ _ ⟨b, g, p', _, _, rfl, b2, bn, g1, g200, bg, hp', p'211, fun q hq hlt2 c e2 => ?_, s1.trans s2⟩ ?_
        · rcases Nat.lt_trichotomy q p with z | z | z
          · exact hno q hq z c e2
          · subst z
            have hq2 := hq.1
            cases hr.uniq (show Pm.IsRoot b q c from ⟨by rw [e2]; exact Nat.le_refl _, by rw [← e2]; exact Pm.pow_lt_of_lt (Nat.lt_succ_self c) (by omega)⟩)
            exact e (by rw [e2]; omega)
          · have := hmin q hq z
            omega
        · show ((b : Nat) : Int).toNat + (1000 - ((p' : Nat) : Int).toNat) < ((b : Nat) : Int).toNat + (1000 - ((p : Nat) : Int).toNat)
          omega
    · walk_at "pw"
      refine newT (by simp) fun a H2 na ha s2 => ?_
      refine q b g a H2 (.inr (.inr ⟨b2, Pm.notPow_of_primes fun q hq c e => ?_, g1, bg⟩)) (s1.free na) (s1.trans s2) ha
      rcases Nat.lt_or_ge q p with z | z
      · exact hno q hq z c e
      · exact Pm.notPow_one_lt b2 (Nat.lt_of_lt_of_le hL1 (Nat.pow_le_pow_right (by decide) (by omega))) (by have := hq.1; omega) e
end
end K05

namespace K05
open PySem PySem.Spec PyProof.Rows L2 Pw SX TL
section
variable {P : Program} {w : World} {K : PySem.W.Frag} {mg : Str → Option Value} {base : Heap}
theorem ok_is_power (F : Pl K mg "is_power" s_is_power ["number"]) (D_greatest_way : Def P w K mg base 5 "greatest_way" ["number"] spGreatest) : Def P w K mg base 6 "is_power" ["number"] spIsPower := by
  refine F.ok sc_is_power (fun vs H Q E h => ?_) (fun f cdv A outer s H vs Q E hr h => ?_)
  · obtain ⟨n, rfl, _⟩ := h
    rfl
  · obtain ⟨n, rfl, nb, q⟩ := h
    refine ⟨_, (pss_one (ps_ret (pe_cmpR op_gt (pe_ix ix_tup (pe_df D_greatest_way hr (by rfl) (pa_cons (pv 0) pa_nil)) pe_int (fun _ _ => rfl)) pe_int (nomark _)))), ?_⟩
    refine at_st [some (.int n)] rfl ?_
    walk_at "p0"
    refine ⟨n, rfl, nb, fun b g p H1 hgw np s1 hp => ?_⟩
    walk_at "pw"
    have e : decide ((1 : Int) < (g : Int)) = decide (1 < g) := decide_eq_decide.mpr ⟨fun h => by omega, fun h => by omega⟩
    rw [e]
    exact q b g H1 hgw s1
theorem ok_ways_of (F : Pl K mg "ways_of" s_ways_of ["number"]) (B : Bl mg) (D_greatest_way : Def P w K mg base 5 "greatest_way" ["number"] spGreatest) (D_taken : Def P w K mg base 1 "taken" ["base", "exponent"] spTaken) : Def P w K mg base 6 "ways_of" ["number"] spWays := by
  refine F.ok sc_ways_of (fun vs H Q E h => ?_) (fun f cdv A outer s H vs Q E hr h => ?_)
  · obtain ⟨n, rfl, _⟩ := h
    rfl
  · obtain ⟨n, rfl, nb, q⟩ := h
    refine ⟨_, (pss_cons (ps_asg (pe_df D_greatest_way hr (by rfl) (pa_cons (pv 0) pa_nil)) (pg_tup (by rfl) (pgs_cons (pg_name (i := 1) sc_ways_of.nd rfl (Or.inr rfl)) (pgs_cons (pg_name (i := 2) sc_ways_of.nd rfl (Or.inr rfl)) pgs_nil))))
      (pss_cons (ps_setLc (i := 3) (own := [("k", 4)]) (by rfl) sc_ways_of.nd rfl rfl (sw_true rfl rfl rfl (by decide +kernel)) (pi_range2 (by rfl) B.range (pa_cons pe_int (pa_cons (pe_op op_add (pv 2) pe_int) pa_nil))) (blkOk_by (own := [("k", 4)]) (N := ["number", "base", "greatest", "exponents", "k"]) (sc := defScope s_ways_of) (by decide +kernel)) (fun _ _ _ _ _ => (pg_name (i := 4) sc_ways_of.nd rfl (Or.inl rfl))) (fun _ _ _ _ _ => (pts_one (pt_cmpR op_eq (pe_op op_mod (pv 2) (pv 4)) pe_int (nomark _)))) (fun _ _ _ _ _ => (pv 4)))
      (pss_one (ps_ret (pe_callTy cr_tupleOf (by rfl) B.tuple (by decide +kernel) (pa_cons (pe_lc (own := [("k", 4)]) (by rfl) sc_ways_of.nd (pi_list (pv 3)) (blkOk_by (own := [("k", 4)]) (N := ["number", "base", "greatest", "exponents", "k"]) (sc := defScope s_ways_of) (by decide +kernel)) (fun _ _ _ _ _ => (pg_name (i := 4) sc_ways_of.nd rfl (Or.inl rfl))) (fun _ _ _ _ _ => pts_nil) (fun _ _ _ _ _ => (pe_tup (pa_cons (pe_df D_taken hr (by rfl) (pa_cons (pv 1) (pa_cons (pe_op op_fdivW (pv 2) (pv 4)) pa_nil))) (pa_cons (pv 4) pa_nil))))) pa_nil)))))), ?_⟩
    refine at_st [some (.int n), none, none, none, none] rfl ?_
    walk_at "p0"
    refine ⟨n, rfl, nb, fun b g p H1 hgw np s1 hp => ?_⟩
    have g190 := hgw.g_le nb
    have b190 := hgw.b_lt nb
    refine r_gTup2 hp ?_
    walk_at "pw"
    refine ⟨by omega, ?_⟩
    intro D nD
    refine lc_range (lo := 2) (n := (((g : Int) + 1) - 2).toNat) (fun i H' => H' D = some (.lst ((divs g i).map fun k : Nat => V.int (k : Int))) ∧ Same H1 H') ⟨upd_same, same_new nD⟩ ?_ ?_
    · rintro i H2 hi ⟨hD, s2⟩
      walk_at "pw"
      refine ⟨rfl, ?_⟩
      walk_at "pw"
      rw [show (2 : Int) + (i : Int) = ((2 + i : Nat) : Int) by omega]
      refine r_I (by omega) ?_
      walk_at "pw"
      rw [emod_nat]
      have dl := divs_len g i
      refine r_iteI (fun e => ?_) (fun e => ?_)
      · walk_at "pw"
        refine ⟨_, hD, by rw [List.length_map]; exact Nat.lt_of_lt_of_le (show (divs g i).length < 1000 by omega) (by decide), ?_, same_updNew s2 nD⟩
        rw [upd_same, divs_succ, if_pos (by omega), List.map_append]
        rfl
      · refine ⟨?_, s2⟩
        rw [divs_succ, if_neg (by omega)]
        exact hD
    · rintro H2 ⟨hD, s2⟩
      have eg : (((g : Int) + 1) - 2).toNat = g - 1 := by omega
      rw [eg] at hD
      walk_at "pw"
      refine r_exL (SqL.of hD) ?_
      intro E2 nE
      refine lc_list (xs := (divs g (g - 1)).map fun k : Nat => V.int (k : Int)) (fun i H' => ∃ ps : List Addr, H' E2 = some (.lst (ps.map V.ref)) ∧ PairsAt H' ps ((waysL b g).take i) ∧ Same H2 H')
        ⟨[], upd_same, by rw [List.take_zero]; exact PairsAt.nil, same_new nE⟩ (fun i H' _ ⟨_, _, _, s'⟩ => SqL.of (s' _ _ hD)) ?_ ?_
      · rintro i x H3 hx ⟨ps, hE, hP, s3⟩
        have hi : i < (divs g (g - 1)).length := by
          have := (List.getElem?_eq_some_iff.mp hx).1
          rwa [List.length_map] at this
        obtain ⟨k, hk, rfl⟩ : ∃ k : Nat, (divs g (g - 1))[i]? = some k ∧ x = V.int (k : Int) := by
          rw [List.getElem?_map, List.getElem?_eq_getElem hi] at hx
          exact ⟨_, List.getElem?_eq_getElem hi, (Option.some.inj hx).symm⟩
        obtain ⟨k2, kg, kd⟩ := mem_divs.mp (List.mem_of_getElem? hk)
        have hps : ps.length ≤ 200 := by
          have := hP.1
          rw [List.length_take] at this
          have := divs_len g (g - 1)
          omega
        have hw : (waysL b g)[i]? = some (b ^ (g / k), k) := by
          unfold waysL
          rw [List.getElem?_map, hk]
          rfl
        walk_at "pw"
        refine ⟨rfl, ?_⟩
        walk_at "pw"
        refine r_I (wide_div (b := 20) (by omega) (by omega) (by decide) (by decide)) ?_
        walk_at "pw"
        have gk : g / k ≤ g := Nat.div_le_self _ _
        refine ⟨b, g / k, 190, by rw [ediv_nat], b190, by omega, by omega, ?_⟩
        walk_at "pw"
        refine newT (by simp) fun p4 H4 np4 hp4 s4 => ?_
        have hP4 := (hP.same s4).push (p := p4) (w := (b ^ (g / k), k)) hp4
        have hE4 := s4 _ _ hE
        refine ⟨_, hE4, by rw [List.length_map]; exact Nat.lt_of_le_of_lt hps (by decide), ps ++ [p4], by rw [upd_same, List.map_append]; rfl, ?_, same_updNew (s3.trans s4) nE⟩
        rw [List.take_add_one, hw]
        exact hP4.upd hE4
      · rintro H3 ⟨ps, hE, hP, s3⟩
        rw [List.length_map, List.take_of_length_le (by unfold waysL; rw [List.length_map]; exact Nat.le_refl _)] at hP
        walk_at "pw"
        refine r_tupleOf (SqL.of hE) fun t H4 nt ht s4 => ?_
        have s14 : Same H H4 := s1.trans (s2.trans (s3.trans s4))
        exact q b g t ps H4 hgw (by omega) ((s1.trans (s2.trans s3)).free nt) s14 ht (hP.same s4)
end
end K05

namespace K05
open PySem PySem.Spec PyProof.Rows L2 Pw SX
section
variable {P : Program} {w : World} {K : PySem.W.Frag} {mg : Str → Option Value} {base : Heap}
theorem ok_law_taken (F : Pl K mg "_law_taken" s_law_taken ["base", "exponent"]) (B : Bl mg) : Def P w K mg base 1 "_law_taken" ["base", "exponent"] spTakenL := by
  refine F.ok sc_law_taken (fun vs H Q E h => ?_) (fun f cdv A outer s H vs Q E hr h => ?_)
  · obtain ⟨c, k, a, rfl, _⟩ := h
    rfl
  · obtain ⟨b, e, a, rfl, hb, hae, he, q⟩ := h
    refine ⟨_, (pss_cons (ps_set (i := 2) sc_law_taken.nd rfl (Or.inl rfl) pe_int)
      (pss_cons (ps_for PassesOwn.never rfl (pi_range1 (by rfl) B.range (pa_cons (pv 1) pa_nil)) (pg_name (i := 3) sc_law_taken.nd rfl (Or.inl rfl))
      (pss_one (ps_set (i := 2) sc_law_taken.nd rfl (Or.inl rfl) (pe_op op_mulX (pv 2) (pv 0)))))
      (pss_one (ps_ret (pv 2))))), ?_⟩
    refine at_st [some (.int b), some (.int e), none, none] rfl ?_
    walk_at "p0"
    refine ⟨by omega, by omega, for_range (fun i σ H' => ∃ (v : Option V), σ = [some (.int b), some (.int e), some (.int ((b ^ i : Nat) : Int)), v] ∧ H' = H) ⟨none, rfl, rfl⟩ ?_ ?_⟩
    · rintro i σ H1 hi ⟨v, rfl, rfl⟩
      have hi' : i < e := by omega
      have ha : a ≤ a * e := Nat.le_mul_of_pos_right _ (by omega)
      walk_at "pw"
      refine r_I (mulx_nat (a * e) (a * e) (Pm.pow_bound hb (by omega)) (Nat.le_trans (Nat.le_of_lt hb) (Nat.pow_le_pow_right (by decide) ha)) (by omega)) ?_
      refine ⟨some (.int ((i : Nat) : Int)), ?_, rfl⟩
      rw [Nat.pow_succ]
      push_cast
      rw [Int.zero_add]
      rfl
    · rintro σ H1 ⟨v, rfl, rfl⟩
      walk_at "pw"
      rw [Int.toNat_natCast]
      exact q
end
end K05

namespace K05
open PySem PySem.Spec PyProof.Rows L2 Pw SX TL
section
variable {P : Program} {w : World} {K : PySem.W.Frag} {mg : Str → Option Value} {base : Heap}
theorem ok_law_root (F : Pl K mg "_law_root" s_law_root ["number", "exponent"]) (B : Bl mg) : Def P w K mg base 1 "_law_root" ["number", "exponent"] spLawRoot := by
  refine F.ok sc_law_root (fun vs H Q E h => ?_) (fun f cdv A outer s H vs Q E hr h => ?_)
  · obtain ⟨n, e, rfl, _⟩ := h
    rfl
  · obtain ⟨n, e, rfl, nb, e1, e140, q⟩ := h
    refine ⟨_, (pss_cons (ps_set (i := 2) sc_law_root.nd rfl (Or.inl rfl) pe_int)
      (pss_cons (ps_set (i := 3) sc_law_root.nd rfl (Or.inl rfl) (pe_op op_shlW pe_int (pe_op op_add (pe_op op_fdivW pe_int (pv 1)) pe_int)))
      (pss_cons (ps_while PassesOwn.never (pt_cmpR op_gt (pv 3) pe_int (nomark _)) (pss_cons (ps_set (i := 4) sc_law_root.nd rfl (Or.inl rfl) pe_int)
      (pss_cons (ps_for PassesOwn.never rfl (pi_range1 (by rfl) B.range (pa_cons (pv 1) pa_nil)) (pg_name (i := 5) sc_law_root.nd rfl (Or.inl rfl))
      (pss_one (ps_if (pt_cmpR op_le (pv 4) (pv 0) (nomark _)) (pss_one (ps_set (i := 4) sc_law_root.nd rfl (Or.inl rfl) (pe_op op_mulX (pv 4) (pe_op op_add (pv 2) (pv 3))))) pss_nil)))
      (pss_cons (ps_if (pt_cmpR op_le (pv 4) (pv 0) (nomark _)) (pss_one (ps_set (i := 2) sc_law_root.nd rfl (Or.inl rfl) (pe_op op_add (pv 2) (pv 3)))) pss_nil)
      (pss_one (ps_set (i := 3) sc_law_root.nd rfl (Or.inl rfl) (pe_op op_fdivW (pv 3) pe_int)))))))
      (pss_one (ps_ret (pv 2)))))), ?_⟩
    refine at_st [some (.int n), some (.int e), none, none, none, none] rfl ?_
    walk_at "p0"
    refine r_I (wide_div (b := 20) (by omega) (by omega) (by decide) (by decide)) ?_
    walk_at "pw"
    have q140 : 140 / e ≤ 140 := Nat.div_le_self _ _
    have ed : (140 : Int) / (e : Int) = ((140 / e : Nat) : Int) := ediv_nat 140 e
    rw [ed]
    refine r_shlN 1 (140 / e + 1) 1 rfl (by push_cast; rfl) (by decide) (by omega) ?_
    rw [Nat.one_mul]
    have up : n < (2 ^ (140 / e + 1 + 1)) ^ e := by
      refine Nat.lt_of_lt_of_le nb ?_
      rw [← Nat.pow_mul]
      refine Nat.pow_le_pow_right (by decide) ?_
      have := Nat.lt_mul_div_succ 140 (show 0 < e by omega)
      have e2 : (140 / e + 1 + 1) * e = e * (140 / e + 1) + e := by rw [Nat.succ_mul, Nat.mul_comm]
      omega
    refine r_whl (fun σ H' => ∃ (f b : Nat) (v4 v5 : Option V), σ = [some (.int n), some (.int e), some (.int f), some (.int b), v4, v5] ∧ f ^ e ≤ n ∧ ((b = 0 ∧ n < (f + 1) ^ e) ∨ ∃ j, b = 2 ^ j ∧ j ≤ 141 ∧ n < (f + 2 ^ (j + 1)) ^ e) ∧ H' = H)
      (fun σ _ => match σ with | [_, _, _, some (.int b), _, _] => b.toNat | _ => 0)
      ⟨0, 2 ^ (140 / e + 1), none, none, rfl, by rw [Nat.zero_pow (by omega)]; exact Nat.zero_le _, .inr ⟨140 / e + 1, rfl, by omega, by rw [Nat.zero_add]; exact up⟩, rfl⟩ ?_
    rintro σ H1 ⟨f, b, v4, v5, rfl, fe, hb, rfl⟩
    have fn : f ≤ n := by
      refine Nat.le_trans ?_ fe
      rcases Nat.eq_zero_or_pos f with z | z
      · rw [z]; exact Nat.zero_le _
      · exact Nat.le_self_pow (by omega) f
    walk_at "pw"
    refine r_ite (fun hpos => ?_) (fun hneg => ?_)
    · obtain ⟨j, rfl, j141, hj⟩ : ∃ j, b = 2 ^ j ∧ j ≤ 141 ∧ n < (f + 2 ^ (j + 1)) ^ e := by
        rcases hb with ⟨z, _⟩ | h
        · omega
        · exact h
      have p141 : 2 ^ j ≤ 2 ^ 141 := Nat.pow_le_pow_right (by decide) j141
      have pj : 0 < 2 ^ j := Nat.pow_pos (by decide)
      refine whileGo fun N hN => ?_
      walk_at "pw"
      refine ⟨by omega, by omega, for_range (fun i σ H' => ∃ (m : Nat) (v5 : Option V), i ≤ e ∧ σ = [some (.int n), some (.int e), some (.int f), some (.int (2 ^ j : Nat)), some (.int m), v5] ∧ m ≤ 2 ^ 300 ∧ (m = (f + 2 ^ j) ^ i ∨ (n < m ∧ n < (f + 2 ^ j) ^ i)) ∧ H' = H1)
        ⟨1, v5, Nat.zero_le _, rfl, Nat.one_le_two_pow, .inl rfl, rfl⟩ ?_ ?_⟩
      · rintro i σ H2 hi ⟨m, v5', _, rfl, mb, hm, rfl⟩
        walk_at "pw"
        refine r_ite (fun hle => ?_) (fun hgt => ?_)
        · have hm' : m = (f + 2 ^ j) ^ i := by
            rcases hm with h | ⟨h, _⟩
            · exact h
            · omega
          walk_at "pw"
          have xb : f + 2 ^ j ≤ 2 ^ 142 := by
            have : (2 : Nat) ^ 142 = 2 ^ 141 + 2 ^ 141 := by decide
            have : (2 : Nat) ^ 140 ≤ 2 ^ 141 := by decide
            omega
          have mx : m * (f + 2 ^ j) ≤ 2 ^ 140 * 2 ^ 142 := Nat.mul_le_mul (by omega) xb
          refine r_I ?_ ?_
          · have := mulx_nat (n := m) (m := f + 2 ^ j) 140 142 (by omega) xb (by decide)
            rw [Int.natCast_add] at this
            exact this
          · refine ⟨m * (f + 2 ^ j), some (.int ((i : Nat) : Int)), by omega, by push_cast; rw [Int.zero_add]; rfl, Nat.le_trans mx (by decide), .inl ?_, rfl⟩
            rw [hm', Nat.pow_succ]
        · walk_at "pw"
          refine ⟨m, some (.int ((i : Nat) : Int)), by omega, by rw [Int.zero_add]; rfl, mb, .inr ⟨by omega, ?_⟩, rfl⟩
          have hx : n < (f + 2 ^ j) ^ i := by
            rcases hm with h | ⟨_, h⟩
            · omega
            · exact h
          exact Nat.lt_of_lt_of_le hx (Nat.pow_le_pow_right (by omega) (Nat.le_succ i))
      · rintro σ H2 ⟨m, v5', _, rfl, mb, hm, rfl⟩
        rw [Int.toNat_natCast] at hm
        have half : ((2 ^ j : Nat) : Int) / 2 = ((2 ^ j / 2 : Nat) : Int) := ediv_nat (2 ^ j) 2
        have next : ∀ f' : Nat, n < (f' + 2 ^ j) ^ e → ((2 ^ j / 2 = 0 ∧ n < (f' + 1) ^ e) ∨ ∃ j', 2 ^ j / 2 = 2 ^ j' ∧ j' ≤ 141 ∧ n < (f' + 2 ^ (j' + 1)) ^ e) := by
          intro f' hf'
          cases j with
          | zero => exact .inl ⟨by decide, hf'⟩
          | succ j => exact .inr ⟨j, by rw [Nat.pow_succ, Nat.mul_div_cancel _ (by decide)], by omega, hf'⟩
        have less : ((2 ^ j / 2 : Nat) : Int).toNat < ((2 ^ j : Nat) : Int).toNat := by
          rw [Int.toNat_natCast, Int.toNat_natCast]
          exact Nat.div_lt_self pj (by decide)
        walk_at "pw"
        refine r_ite (fun hle => ?_) (fun hgt => ?_)
        · have hx : (f + 2 ^ j) ^ e ≤ n := by
            rcases hm with h | ⟨h, _⟩
            · omega
            · omega
          walk_at "pw"
          refine r_I (wide_div (b := 20) (by decide) (by decide) (by decide) (by decide)) ?_
          rw [half]
          refine hN _ _ ⟨f + 2 ^ j, 2 ^ j / 2, some (.int m), v5', by push_cast; rfl, hx, next _ ?_, rfl⟩ less
          rw [Nat.add_assoc, show 2 ^ j + 2 ^ j = 2 ^ (j + 1) by rw [Nat.pow_succ]; omega]
          exact hj
        · have hx : n < (f + 2 ^ j) ^ e := by
            rcases hm with h | ⟨_, h⟩
            · omega
            · exact h
          walk_at "pw"
          refine r_I (wide_div (b := 20) (by decide) (by decide) (by decide) (by decide)) ?_
          rw [half]
          exact hN _ _ ⟨f, 2 ^ j / 2, some (.int m), v5', rfl, fe, next _ hx, rfl⟩ less
    · have hb0 : b = 0 := by omega
      walk_at "pw"
      refine q f ⟨fe, ?_⟩
      rcases hb with ⟨_, h⟩ | ⟨j, h, _⟩
      · exact h
      · have : 0 < 2 ^ j := Nat.pow_pos (by decide)
        omega
end
end K05

namespace K05
open PySem PySem.Spec PyProof.Rows L2 Pw SX TL
section
variable {P : Program} {w : World} {K : PySem.W.Frag} {mg : Str → Option Value} {base : Heap}
theorem n1 {n : Nat} (h : V.int (n : Int) = V.int 1) : n = 1 := by
  have := V.int.inj h
  omega
theorem ok_law_ways (F : Pl K mg "_law_ways" s_law_ways ["number"]) (B : Bl mg) (D_law_root : Def P w K mg base 1 "_law_root" ["number", "exponent"] spLawRoot) (D_law_taken : Def P w K mg base 1 "_law_taken" ["base", "exponent"] spTakenL) :
    Def P w K mg base 2 "_law_ways" ["number"] spLawWays := by
  refine F.ok sc_law_ways (fun vs H Q E h => ?_) (fun f cdv A outer s H vs Q E hr h => ?_)
  · obtain ⟨n, rfl, _⟩ := h
    rfl
  · obtain ⟨n, rfl, nb, q⟩ := h
    refine ⟨_, (pss_cons (ps_if (pt_cmpR op_eq (pv 0) pe_int (nomark _)) (pss_one (ps_ret (pe_tup (pa_cons (pe_tup (pa_cons pe_int (pa_cons pe_int pa_nil))) pa_nil)))) pss_nil)
      (pss_cons (ps_set (i := 1) sc_law_ways.nd rfl (Or.inl rfl) (pe_lst pa_nil))
      (pss_cons (ps_for PassesOwn.never rfl (pi_range2 (by rfl) B.range (pa_cons pe_int (pa_cons (pe_op op_mulX pe_int (pe_callTy call_int1 (by rfl) B.int (by decide +kernel) (pa_cons (pe_cmpR op_gt (pv 0) pe_int (nomark _)) pa_nil))) pa_nil))) (pg_name (i := 2) sc_law_ways.nd rfl (Or.inl rfl))
      (pss_one (ps_if (pt_cmpR op_le (pe_op op_shlW pe_int (pv 2)) (pv 0) (nomark _)) (pss_cons (ps_set (i := 3) sc_law_ways.nd rfl (Or.inl rfl) (pe_df D_law_root hr (by rfl) (pa_cons (pv 0) (pa_cons (pv 2) pa_nil))))
      (pss_one (ps_if (pt_cmpR op_eq (pe_df D_law_taken hr (by rfl) (pa_cons (pv 3) (pa_cons (pv 2) pa_nil))) (pv 0) (nomark _)) (pss_one (ps_expr (pe_bm PySem.F.plainAttrs_list PySem.F.slot_list_append PySem.F.type_list_append mt_append (pv 1) (pa_cons (pe_tup (pa_cons (pv 3) (pa_cons (pv 2) pa_nil))) pa_nil)))) pss_nil))) pss_nil)))
      (pss_one (ps_ret (pe_callTy cr_tupleOf (by rfl) B.tuple (by decide +kernel) (pa_cons (pv 1) pa_nil))))))), ?_⟩
    refine at_st [some (.int n), none, none, none] rfl ?_
    walk_at "p0"
    refine r_ite (fun h1 => ?_) (fun h1 => ?_)
    · cases n1 (by assumption)
      walk_at "pw"
      refine newT (by simp) fun p1 H1 np1 hp1 s1 => ?_
      walk_at "pw"
      refine newT (by simp) fun p2 H2 np2 hp2 s2 => ?_
      refine q 1 2 p2 [p1] H2 (.inr (.inl ⟨rfl, rfl, rfl⟩)) (s1.free np2) (s1.trans s2) hp2 ?_
      exact PairsAt.push (w := (1, 2)) PairsAt.nil (s2 _ _ hp1)
    · have n1' : n ≠ 1 := fun z => h1 (by rw [z]; rfl)
      obtain ⟨b, g, hgw⟩ := GW.ex n
      have gpos := hgw.pos
      walk_at "pw"
      refine newL (by simp) fun D H1 nD hD s1 => ?_
      walk_at "pw"
      refine .inr ⟨_, rfl, ?_⟩
      have dec : ∀ i : Nat, i ≤ 132 → (divs g i).length ≤ 200 := fun i h => Nat.le_trans (divs_len g i) (by omega)
      by_cases hn : (1 : Int) < (n : Int)
      · have n2 : 2 ≤ n := by omega
        have g133 : g < 133 := by
          refine Nat.lt_of_not_le fun z => ?_
          have h2 := hgw.le2 n2
          have h3 : (2 : Nat) ^ 133 ≤ 2 ^ g := Nat.pow_le_pow_right (by decide) z
          omega
        rw [if_pos (decide_eq_true hn)]
        refine r_I (mulx_of 40 40 (by decide) (by decide) (by decide)) ?_
        walk_at "pw"
        refine ⟨⟨by decide, by decide, by decide, by decide⟩, for_range (fun i σ H' => ∃ (ps : List Addr) (v2 v3 : Option V), σ = [some (.int n), some (.ref D), v2, v3] ∧ H' D = some (.lst (ps.map V.ref)) ∧ PairsAt H' ps ((divs g i).map fun k => (b ^ (g / k), k)) ∧ Same H H')
          ⟨[], none, none, rfl, hD, PairsAt.nil, s1⟩ ?_ ?_⟩
        · rintro i σ H2 hi ⟨ps, v2, v3, rfl, hD2, hP2, s2⟩
          have hi' : i < 132 := hi
          have hpl : ps.length ≤ 200 := by
            have := hP2.1
            rw [List.length_map] at this
            have := dec i (by omega)
            omega
          walk_at "pw"
          rw [show (2 : Int) + (i : Int) = ((2 + i : Nat) : Int) by omega]
          refine r_shlN 1 (2 + i) 1 rfl rfl (by decide) (by omega) ?_
          rw [Nat.one_mul]
          walk_at "pw"
          refine r_ite (fun hle => ?_) (fun hgt => ?_)
          · walk_at "pw"
            refine ⟨n, 2 + i, rfl, by omega, by omega, by omega, fun r hr => ?_⟩
            walk_at "pw"
            have rn := root_le (show 0 < 2 + i by omega) hr
            have p133 : (2 : Nat) ^ 133 < 2 ^ 140 := by decide
            refine ⟨r, 2 + i, 140, rfl, by omega, by omega, by omega, ?_⟩
            walk_at "pw"
            have hdv := hgw.dvd n2 (show 2 ≤ 2 + i by omega) hr
            refine r_iteI (fun e2 => ?_) (fun e2 => ?_)
            · have e2' : r ^ (2 + i) = n := by omega
              have hb := hgw.base n2 (show 2 ≤ 2 + i by omega) e2'
              walk_at "pw"
              refine ⟨.inl ⟨rfl, _, SqL.of hD2⟩, ?_⟩
              walk_at "pw"
              refine newT (by simp) fun p3 H3 np3 hp3 s3 => ?_
              walk_at "pw"
              have hD3 := s3 _ _ hD2
              have hv3 : H3 p3 = some (vp (b ^ (g / (2 + i)), 2 + i)) := by rw [hp3, hb.2]; rfl
              have hP3 := (hP2.same s3).push hv3
              refine r_append hD3 (by rw [List.length_map]; exact Nat.lt_of_le_of_lt hpl (by decide)) ?_
              walk_at "pw"
              refine ⟨ps ++ [p3], _, _, rfl, by rw [upd_same, List.map_append]; rfl, ?_, same_updNew (s2.trans s3) nD⟩
              rw [divs_succ, if_pos (Nat.mod_eq_zero_of_dvd hb.1), List.map_append]
              exact hP3.upd hD3
            · walk_at "pw"
              refine ⟨ps, _, _, rfl, hD2, ?_, s2⟩
              rw [divs_succ, if_neg (fun z => e2 (by rw [hdv.mpr (Nat.dvd_of_mod_eq_zero z)]))]
              exact hP2
          · walk_at "pw"
            refine ⟨ps, _, _, rfl, hD2, ?_, s2⟩
            rw [divs_succ, if_neg]
            · exact hP2
            · intro z
              have h1 := Nat.le_of_dvd gpos (Nat.dvd_of_mod_eq_zero z)
              have h2 := hgw.le2 n2
              have h3 : (2 : Nat) ^ (2 + i) ≤ 2 ^ g := Nat.pow_le_pow_right (by decide) h1
              omega
        · rintro σ H2 ⟨ps, v2, v3, rfl, hD2, hP2, s2⟩
          walk_at "pw"
          refine r_tupleOf (SqL.of hD2) fun t H4 nt ht s4 => ?_
          refine q b g t ps H4 hgw (s2.free nt) (s2.trans s4) ht (PairsAt.same ?_ s4)
          unfold waysL
          rw [← divs_all gpos (132 - (g - 1)), show g - 1 + (132 - (g - 1)) = 132 by omega]
          exact hP2
      · have n0 : n = 0 := by omega
        subst n0
        rw [if_neg (fun z => hn (of_decide_eq_true z))]
        refine r_I (mulx_of 40 40 (by decide) (by decide) (by decide)) ?_
        walk_at "pw"
        refine ⟨⟨by decide, by decide, by decide, by decide⟩, for_range (fun i σ H' => σ = [some (.int (0 : Nat)), some (.ref D), none, none] ∧ H' = H1) ⟨rfl, rfl⟩ (fun i σ H2 hi _ => absurd hi (Nat.not_lt_zero i)) ?_⟩
        rintro σ H2 ⟨rfl, rfl⟩
        walk_at "pw"
        refine r_tupleOf (ys := []) (SqL.of hD) fun t H4 nt ht s4 => ?_
        exact q 0 1 t [] H4 (.inl ⟨rfl, rfl, rfl⟩) (s1.free nt) (s1.trans s4) ht PairsAt.nil
end
end K05

namespace K05
open PySem PySem.Spec PyProof.Rows L2 Pw SX TL
section
variable {P : Program} {w : World} {K : PySem.W.Frag} {mg : Str → Option Value} {base : Heap}
theorem ok_law_right (F : Pl K mg "_law_right" s_law_right ["number", "due"]) (B : Bl mg) (D_ways_of : Def P w K mg base 6 "ways_of" ["number"] spWays) (D_is_power : Def P w K mg base 6 "is_power" ["number"] spIsPower) :
    Def P w K mg base 7 "_law_right" ["number", "due"] spRight := by
  refine F.ok sc_law_right (fun vs H Q E h => ?_) (fun f cdv A outer s H vs Q E hr h => ?_)
  · obtain ⟨n, p, ps, b, g, rfl, _⟩ := h
    rfl
  · obtain ⟨n, p, ps, b, g, rfl, nb, hgw, hp, hP, q⟩ := h
    refine ⟨_, (pss_cons (ps_set (i := 2) sc_law_right.nd rfl (Or.inl rfl) (pe_df D_ways_of hr (by rfl) (pa_cons (pv 0) pa_nil)))
      (pss_cons (ps_if (PW.pt (pw_or (pt_not (pt_val (pe_callB call_isi (by rfl) B.isinstance (by decide +kernel) (pa_cons (pv 2) (pa_cons (pe_bltn (v := .ty "tuple") (by rfl) B.tuple (by decide +kernel) rfl) pa_nil))))) (pw_or1 (pt_cmpR (op_neD hr.units) (pv 2) (pv 1) (nomark _))))) (pss_one (ps_ret pe_bl)) pss_nil)
      (pss_cons (ps_for PassesOwn.never rfl (pi_tup (pv 2)) (pg_name (i := 3) sc_law_right.nd rfl (Or.inl rfl))
      (pss_one (ps_if (PW.pt (pw_or (pt_not (pt_val (pe_callB call_isi (by rfl) B.isinstance (by decide +kernel) (pa_cons (pv 3) (pa_cons (pe_bltn (v := .ty "tuple") (by rfl) B.tuple (by decide +kernel) rfl) pa_nil))))) (pw_or1 (pt_cmpR (op_neD hr.units) (pe_lc (own := [("part", 5)]) (by rfl) sc_law_right.nd (pi_tup (pv 3)) (blkOk_by (own := [("part", 5)]) (N := ["number", "due", "found", "one", "told", "part"]) (sc := defScope s_law_right) (by decide +kernel)) (fun _ _ _ _ _ => (pg_name (i := 5) sc_law_right.nd rfl (Or.inl rfl))) (fun _ _ _ _ _ => (pts_one (pt_val (pe_callB (id := "isinstance") (r := (rIsi K)) call_isi (by rfl) B.isinstance (by decide +kernel) (pa_cons (pv 5) (pa_cons (pe_bltn (v := .ty "bool") (by rfl) B.bool (by decide +kernel) rfl) pa_nil)))))) (fun _ _ _ _ _ => (pv 5))) (pe_lst pa_nil) (nomark _))))) (pss_one (ps_ret pe_bl)) pss_nil)))
      (pss_cons (ps_set (i := 4) sc_law_right.nd rfl (Or.inl rfl) (pe_df D_is_power hr (by rfl) (pa_cons (pv 0) pa_nil)))
      (pss_one (ps_ret (pe_and (pe_callB call_isi (by rfl) B.isinstance (by decide +kernel) (pa_cons (pv 4) (pa_cons (pe_bltn (v := .ty "bool") (by rfl) B.bool (by decide +kernel) rfl) pa_nil))) (pe_one (pe_cmpR op_eq (pv 4) (pe_cmpR (op_neD hr.units) (pv 1) (pe_tup pa_nil) (nomark _)) (nomark _)))))))))), ?_⟩
    refine at_st [some (.int n), some (.ref p), none, none, none, none] rfl ?_
    have n190 : n < 2 ^ 190 := Nat.lt_trans nb (Nat.pow_lt_pow_right (by decide) (by decide))
    walk_at "p0"
    refine ⟨n, rfl, n190, fun b2 g2 p2 ps2 H2 hgw2 g200 np2 s2 hp2 hP2 => ?_⟩
    obtain ⟨rfl, rfl⟩ := hgw.uniq hgw2
    walk_at "pw"
    refine r_nePT (ps := ps2) (zs := waysL b g) (qs := ps) (ws := waysL b g) (SqT.of hp2) hP2 (SqT.of (s2 _ _ hp)) (hP.same s2) ?_
    rw [decide_eq_true rfl]
    walk_at "pw"
    refine r_exT (SqT.of hp2) ?_
    refine for_tup (xs := ps2.map V.ref) (fun i σ H' => ∃ (v3 v4 v5 : Option V), σ = [some (.int n), some (.ref p), some (.ref p2), v3, v4, v5] ∧ Same H2 H') ⟨_, _, _, rfl, Same.refl _⟩ (fun i σ H' _ ⟨_, _, _, _, s'⟩ => SqT.of (s' _ _ hp2)) ?_ ?_
    · rintro i x σ H6 hx ⟨v3, v4, v5, rfl, s6⟩
      have hi : i < ps2.length := by
        have := (List.getElem?_eq_some_iff.mp hx).1
        rwa [List.length_map] at this
      have ex : x = V.ref ps2[i] := by
        rw [List.getElem?_map, List.getElem?_eq_getElem hi] at hx
        exact (Option.some.inj hx).symm
      subst ex
      have hi2 : i < (waysL b g).length := by rw [← hP2.1]; exact hi
      have hrow := (hP2.same s6).2 i ps2[i] _ (List.getElem?_eq_getElem hi) (List.getElem?_eq_getElem hi2)
      have hrow' : H6 ps2[i] = some (.tup [.int (((waysL b g)[i].1 : Nat) : Int), .int (((waysL b g)[i].2 : Nat) : Int)]) := hrow
      walk_at "pw"
      refine r_exT (SqT.of hrow') ?_
      intro D nD
      refine lc_none nD hrow' (fun _ => rfl) (fun x H' F hx s' hF => ?_) (fun H' hD s' => ?_)
      · have hx2 : x = .int (((waysL b g)[i].1 : Nat) : Int) ∨ x = .int (((waysL b g)[i].2 : Nat) : Int) := by simpa using hx
        rcases hx2 with rfl | rfl
        · walk_at "pw"
          exact hF
        · walk_at "pw"
          exact hF
      · walk_at "pw"
        refine newL (by simp) fun p7 H7 np7 hp7 s7 => ?_
        refine r_neDL (ns := []) (ms := []) (SqL.of (s7 _ _ hD)) (SqL.of hp7) ?_
        walk_at "pw"
        exact ⟨_, _, _, rfl, s6.trans (s'.trans s7)⟩
    · rintro σ H6 ⟨v3, v4, v5, rfl, s6⟩
      walk_at "pw"
      refine ⟨n, rfl, n190, fun b5 g5 H5 hgw5 s5 => ?_⟩
      obtain ⟨rfl, rfl⟩ := hgw.uniq hgw5
      walk_at "pw"
      refine newT (by simp) fun p7 H7 np7 hp7 s7 => ?_
      have s07 : Same H H7 := s2.trans (s6.trans (s5.trans s7))
      refine r_nePT (ps := ps) (zs := waysL b g) (qs := []) (ws := []) (SqT.of (s07 _ _ hp)) (hP.same s07) (SqT.of hp7) PairsAt.nil ?_
      have ew : (!decide (waysL b g = [])) = decide (1 < g) := by
        by_cases h : g ≤ 1
        · rw [decide_eq_true (waysL_empty.mpr h), decide_eq_false (by omega)]
          rfl
        · rw [decide_eq_false (fun z => h (waysL_empty.mp z)), decide_eq_true (by omega)]
          rfl
      rw [ew]
      refine r_eqS rfl ?_
      rw [decide_eq_true rfl]
      exact q _ s07
end
end K05

namespace K05
open PySem PySem.Spec PyProof.Rows L2 Pw SX TL
section
variable {P : Program} {w : World} {K : PySem.W.Frag} {mg : Str → Option Value} {base : Heap}
theorem notPow_two : Pm.NotPow 2 := fun c k hk e => by
  have c2 : 2 ≤ c := pow_base2 (by omega) (by decide) e
  have h1 : (2 : Nat) ^ 2 ≤ 2 ^ k := Nat.pow_le_pow_right (by decide) hk
  have h2 : (2 : Nat) ^ k ≤ c ^ k := Nat.pow_le_pow_left c2 k
  omega
theorem gw_64 : GW 64 2 6 := .inr (.inr ⟨by decide, notPow_two, by decide, by decide⟩)
theorem ok_law {fl : Addr} {fdl : FuncData} (F : Fun K "law" "law" s_law fl fdl) (B : Bl mg)
    (D_law_deck : Def P w K mg base 1 "_law_deck" ["script"] (spDeck K)) (D_law_next : Def P w K mg base 2 "_law_next" ["deck", "many"] spNext) (D_law_number : Def P w K mg base 5 "_law_number" ["deck", "most"] spNumber)
    (D_law_ways : Def P w K mg base 2 "_law_ways" ["number"] spLawWays) (D_law_right : Def P w K mg base 7 "_law_right" ["number", "due"] spRight)
    (D_ways_of : Def P w K mg base 6 "ways_of" ["number"] spWays) (D_is_power : Def P w K mg base 6 "is_power" ["number"] spIsPower) :
    FnOk P w K mg base CX0 8 fl fdl ["script"] (spLaw K) := by
  refine F.ok sc_law (fun vs H Q E h => ?_) (fun cdv A outer s H vs Q E hr h => ?_)
  · obtain ⟨a, ns, rfl, _⟩ := h
    rfl
  · obtain ⟨a, ns, rfl, hS, hlen, q⟩ := h
    refine ⟨_, (pss_cons (ps_set (i := 1) sc_law.nd rfl (Or.inr rfl) (pe_df D_law_deck hr (by rfl) (pa_cons (pv 0) pa_nil)))
      (pss_cons (ps_setLc (i := 2) (own := [("k", 4)]) (by rfl) sc_law.nd rfl rfl (sw_true rfl rfl rfl (by decide +kernel)) (pi_range1 (by rfl) B.range (pa_cons pe_int pa_nil)) (blkOk_by (own := [("k", 4)]) (N := ["script", "deck", "numbers", "dues", "k", "start", "here", "base", "power", "exponent", "number", "due"]) (sc := defScope s_law) (by decide +kernel)) (fun _ _ _ _ _ => (pg_name (i := 4) sc_law.nd rfl (Or.inl rfl))) (fun _ _ _ _ _ => pts_nil) (fun _ _ _ _ _ => (pe_df D_law_number hr (by rfl) (pa_cons (pv 1) (pa_cons (pe_op op_pow pe_int pe_int) pa_nil)))))
      (pss_cons (ps_setLc (i := 3) (own := [("number", 10)]) (by rfl) sc_law.nd rfl rfl (sw_true rfl rfl rfl (by decide +kernel)) (pi_list (pv 2)) (blkOk_by (own := [("number", 10)]) (N := ["script", "deck", "numbers", "dues", "k", "start", "here", "base", "power", "exponent", "number", "due"]) (sc := defScope s_law) (by decide +kernel)) (fun _ _ _ _ _ => (pg_name (i := 10) sc_law.nd rfl (Or.inl rfl))) (fun _ _ _ _ _ => pts_nil) (fun _ _ _ _ _ => (pe_df D_law_ways hr (by rfl) (pa_cons (pv 10) pa_nil))))
      (pss_cons (ps_for PassesOwn.never rfl (pi_list (pe_lst (pa_cons pe_int (pa_cons pe_int (pa_cons pe_int (pa_cons pe_int (pa_cons pe_int (pa_cons pe_int (pa_cons pe_int (pa_cons pe_int (pa_cons pe_int (pa_cons pe_int pa_nil)))))))))))) (pg_name (i := 4) sc_law.nd rfl (Or.inl rfl))
      (pss_one (ps_if (pt_not (pt_val (pe_df D_law_right hr (by rfl) (pa_cons (pe_ix ix_list (pv 2) (pv 4) (fun _ _ => rfl)) (pa_cons (pe_ix ix_list (pv 3) (pv 4) (fun _ _ => rfl)) pa_nil))))) (pss_one (ps_ret pe_bl)) pss_nil)))
      (pss_cons (ps_set (i := 5) sc_law.nd rfl (Or.inl rfl) (pe_df D_law_next hr (by rfl) (pa_cons (pv 1) (pa_cons pe_int pa_nil))))
      (pss_cons (ps_set (i := 6) sc_law.nd rfl (Or.inl rfl) pe_dnewK)
      (pss_cons (ps_for PassesOwn.never rfl (pi_range2 (by rfl) B.range (pa_cons pe_int (pa_cons pe_int pa_nil))) (pg_name (i := 7) sc_law.nd rfl (Or.inl rfl))
      (pss_cons (ps_set (i := 8) sc_law.nd rfl (Or.inl rfl) (pe_op op_mulX (pv 7) (pv 7)))
      (pss_cons (ps_set (i := 9) sc_law.nd rfl (Or.inl rfl) pe_int)
      (pss_one (ps_while PassesOwn.never (pt_cmpR op_lt (pv 8) (pe_op op_add (pv 5) pe_int) (nomark _)) (pss_cons (ps_dput (room1 hr) (pv 6) (pv 8) (pe_op op_catTA (pe_dget2 (room1 hr) (pv 6) (pv 8) (pe_tup pa_nil) (by exact ⟨rfl, rfl, rfl, rfl⟩)) (pe_tup (pa_cons (pe_tup (pa_cons (pv 9) (pa_cons (pv 7) pa_nil))) pa_nil))) rfl)
      (pss_cons (ps_set (i := 8) sc_law.nd rfl (Or.inl rfl) (pe_op op_mulX (pv 8) (pv 7)))
      (pss_one (ps_set (i := 9) sc_law.nd rfl (Or.inl rfl) (pe_op op_add (pv 9) pe_int))))))))))
      (pss_cons (ps_for PassesOwn.never rfl (pi_range2 (by rfl) B.range (pa_cons (pe_callB (cr_max2 rfl) (by rfl) B.max (by decide +kernel) (pa_cons pe_int (pa_cons (pv 5) pa_nil))) (pa_cons (pe_op op_add (pv 5) pe_int) pa_nil))) (pg_name (i := 10) sc_law.nd rfl (Or.inl rfl))
      (pss_cons (ps_set (i := 11) sc_law.nd rfl (Or.inl rfl) (pe_callTy cr_tupleOf (by rfl) B.tuple (by decide +kernel) (pa_cons (pe_lc (own := [("exponent", 9), ("base", 7)]) (by rfl) sc_law.nd (pi_list (pe_callB cr_sortedPT (by rfl) B.sorted (by decide +kernel) (pa_cons (pe_dget2 (room1 hr) (pv 6) (pv 10) (pe_tup pa_nil) (by exact ⟨rfl, rfl, rfl, rfl⟩)) pa_nil))) (blkOk_by (own := [("exponent", 9), ("base", 7)]) (N := ["script", "deck", "numbers", "dues", "k", "start", "here", "base", "power", "exponent", "number", "due"]) (sc := defScope s_law) (by decide +kernel)) (fun _ _ _ _ _ => (pg_tupB (n := 2) (by rfl) (pgs_cons (pg_name (i := 9) sc_law.nd rfl (Or.inl rfl)) (pgs_cons (pg_name (i := 7) sc_law.nd rfl (Or.inl rfl)) pgs_nil)))) (fun _ _ _ _ _ => pts_nil) (fun _ _ _ _ _ => (pe_tup (pa_cons (pv 7) (pa_cons (pv 9) pa_nil))))) pa_nil)))
      (pss_one (ps_if (pt_not (pt_val (pe_df D_law_right hr (by rfl) (pa_cons (pv 10) (pa_cons (pv 11) pa_nil))))) (pss_one (ps_ret pe_bl)) pss_nil))))
      (pss_one (ps_ret (pe_and (pe_cmpR (op_eqD hr.units) (pe_df D_ways_of hr (by rfl) (pa_cons pe_int pa_nil)) (pe_tup (pa_cons (pe_tup (pa_cons pe_int (pa_cons pe_int pa_nil))) (pa_cons (pe_tup (pa_cons pe_int (pa_cons pe_int pa_nil))) (pa_cons (pe_tup (pa_cons pe_int (pa_cons pe_int pa_nil))) pa_nil)))) (nomark _)) (pe_and (pe_cmpR (op_eqD hr.units) (pe_df D_ways_of hr (by rfl) (pa_cons pe_int pa_nil)) (pe_tup pa_nil) (nomark _)) (pe_one (pe_cmpR op_isBl (pe_df D_is_power hr (by rfl) (pa_cons pe_int pa_nil)) pe_bl (nomark _))))))))))))))), ?_⟩
    refine at_st [some (.ref a), none, none, none, none, none, none, none, none, none, none, none] rfl ?_
    walk_at "p0"
    refine ⟨a, ns, rfl, hS, fun d c H1 nd s1 D1 => ?_⟩
    walk_at "pw"
    refine ⟨by decide, by decide, fun l nl => ?_⟩
    have nld := D1.ne nl
    have nlc := D1.nec nl
    refine lc_range (lo := 0) (n := 8) (fun i H' => ∃ xs : List Nat, H' l = some (.lst ((xs.map fun x : Nat => (x : Int)).map V.int)) ∧ xs.length = i ∧ (∀ x ∈ xs, x < 2 ^ 133) ∧ DeckAt H' d c (60 * i))
      ⟨[], upd_same, rfl, fun x hx => (nomatch hx), D1.upd nld nlc⟩ ?_ ?_
    · rintro i H2 hi ⟨xs, hl, hx, hb, D2⟩
      walk_at "pw"
      refine ⟨rfl, ?_⟩
      walk_at "pw"
      refine ⟨_, _, _, _, rfl, by decide, by decide, D2, by omega, fun r H3 r0 r1 k3 D3 => ?_⟩
      obtain ⟨r, rfl, _, r2⟩ := small40 r0 (by exact r1)
      refine ⟨_, k3 _ _ nld hl, by rw [List.length_map, List.length_map]; exact Nat.lt_of_lt_of_le (show xs.length < 100 by omega) (by decide), xs ++ [r], ?_, by rw [List.length_append, List.length_singleton, hx], fun x h => ?_, (D3.upd nld nlc).mono (by omega)⟩
      · rw [upd_same, List.map_append, List.map_append]
        rfl
      · rcases List.mem_append.mp h with h | h
        · exact hb x h
        · have : x = r := by simpa using h
          rw [this]
          exact Nat.lt_of_le_of_lt r2 (by decide)
    · rintro H6 ⟨ys, hl6', hlen8, hb8, D6⟩
      walk_at "pw"
      refine r_exL (SqL.of hl6') ?_
      intro D nD
      refine lc_list (xs := (ys.map fun x : Nat => (x : Int)).map V.int) (fun i H' => DuesW H' D (ys.take i) i ∧ Same H6 H')
        ⟨⟨[], upd_same, rfl, fun i n p h => by rw [List.take_zero] at h; exact absurd h (by simp)⟩, same_new nD⟩ (fun i H' _ ⟨_, s'⟩ => SqL.of (s' _ _ hl6')) ?_ ?_
      · rintro i x H7 hx7 ⟨hdu, s7⟩
        have hi : i < ys.length := by
          have := (List.getElem?_eq_some_iff.mp hx7).1
          simpa using this
        have ex : x = V.int ((ys[i] : Nat) : Int) := by
          rw [List.getElem?_map, List.getElem?_map, List.getElem?_eq_getElem hi] at hx7
          exact (Option.some.inj hx7).symm
        subst ex
        walk_at "pw"
        refine ⟨rfl, ?_⟩
        walk_at "pw"
        refine ⟨ys[i], rfl, hb8 _ (List.getElem_mem hi), fun b g p qs H8 hgw np s8 hp hP => ?_⟩
        obtain ⟨ps, h1, h2, h3⟩ := (hdu.same s8).push hi hgw hp hP
        refine ⟨_, h1, by rw [List.length_map, h2]; exact Nat.lt_of_lt_of_le (show i < 100 by omega) (by decide), h3, same_updNew (s7.trans s8) nD⟩
      · rintro H7 ⟨hdu, s7⟩
        rw [List.length_map, List.length_map, List.take_length] at hdu
        walk_at "pw"
        refine newL (by simp) fun l8 H8 nl8 hl8 s8 => ?_
        refine r_exL (SqL.of hl8) ?_
        refine for_list (xs := [V.int 0, V.int 1, V.int 2, V.int 3, V.int 4, V.int 5, V.int 6, V.int 7, V.int 0, V.int 3]) (fun i σ H' => ∃ (v4 : Option V), σ = [some (.ref a), some (.ref d), some (.ref l), some (.ref D), v4, none, none, none, none, none, none, none] ∧ Same H8 H') ⟨_, rfl, Same.refl _⟩ (fun i σ H' _ ⟨_, _, s'⟩ => SqL.of (s' _ _ hl8)) ?_ ?_
        · rintro i x σ H9 hx9 ⟨v4, rfl, s9⟩
          obtain ⟨k, rfl, hk⟩ : ∃ k : Nat, x = .int (k : Int) ∧ k < 8 := by
            have hm := List.mem_of_getElem? hx9
            simp only [List.mem_cons, List.not_mem_nil, or_false] at hm
            rcases hm with rfl | rfl | rfl | rfl | rfl | rfl | rfl | rfl | rfl | rfl
            · exact ⟨0, rfl, by decide⟩
            · exact ⟨1, rfl, by decide⟩
            · exact ⟨2, rfl, by decide⟩
            · exact ⟨3, rfl, by decide⟩
            · exact ⟨4, rfl, by decide⟩
            · exact ⟨5, rfl, by decide⟩
            · exact ⟨6, rfl, by decide⟩
            · exact ⟨7, rfl, by decide⟩
            · exact ⟨0, rfl, by decide⟩
            · exact ⟨3, rfl, by decide⟩
          have hky : k < ys.length := by omega
          have s69 : Same H6 H9 := s7.trans (s8.trans s9)
          walk_at "pw"
          refine r_ixL (SqL.of (s69 _ _ hl6')) (v := .int ((ys[k] : Nat) : Int)) (atI_nat (by rw [List.getElem?_map, List.getElem?_map, List.getElem?_eq_getElem hky]; rfl)) ?_
          walk_at "pw"
          have hyk := hb8 _ (List.getElem_mem hky)
          obtain ⟨ps, h1, h2, h3⟩ := (hdu.same (s8.trans s9)).ex
          have hkp : k < ps.length := by omega
          refine r_ixL (SqL.of h1) (v := .ref ps[k]) (atI_nat (by rw [List.getElem?_map, List.getElem?_eq_getElem hkp]; rfl)) ?_
          walk_at "pw"
          obtain ⟨b, g, qs, h4, h5, h6⟩ := h3 k ys[k] ps[k] (List.getElem?_eq_getElem hky) (List.getElem?_eq_getElem hkp)
          refine ⟨ys[k], ps[k], qs, b, g, rfl, hyk, h4, h5, h6, fun H10 s10 => ?_⟩
          walk_at "pw"
          exact ⟨_, rfl, s9.trans s10⟩
        · rintro σ H9 ⟨v4, rfl, s9⟩
          have D9 := D6.same (s7.trans (s8.trans s9))
          walk_at "pw"
          refine ⟨_, _, _, _, rfl, by decide, by decide, D9, by omega, fun t H10 t0 t1 k10 D10 => ?_⟩
          obtain ⟨t, rfl⟩ := Int.eq_ofNat_of_zero_le t0
          walk_at "pw"
          refine r_dnew fun dh H11 ndh hdh s11 => ?_
          walk_at "pw"
          refine ⟨by decide, for_range (fun i σ H' => ∃ (T : Nat → List (Nat × Nat)) (v7 v8 v9 : Option V), σ = [some (.ref a), some (.ref d), some (.ref l), some (.ref D), v4, some (.int (t : Int)), some (.ref dh), v7, v8, v9, none, none] ∧ DT H' dh T (12 * i) ∧ TInv T (t + 40) (2 + i) 2)
            ⟨_, none, none, none, rfl, DT.new hdh, TInv.new _⟩ ?_ ?_⟩
          · rintro i σ H12 hi ⟨T, v7, v8, v9, rfl, hT, iT⟩
            have hi' : i < 58 := hi
            walk_at "pw"
            rw [show (2 : Int) + (i : Int) = ((2 + i : Nat) : Int) by omega]
            obtain ⟨B, hB⟩ : ∃ B : Nat, B = 2 + i := ⟨_, rfl⟩
            rw [← hB]
            rw [← hB] at iT
            refine r_I (mulx_of 40 40 (by omega) (by omega) (by decide)) ?_
            walk_at "pw"
            refine r_whl (fun σ H' => ∃ (E : Nat) (T : Nat → List (Nat × Nat)), σ = [some (.ref a), some (.ref d), some (.ref l), some (.ref D), v4, some (.int (t : Int)), some (.ref dh), some (.int (B : Int)), some (.int ((B ^ E : Nat) : Int)), some (.int (E : Int)), none, none] ∧ 2 ≤ E ∧ E ≤ 12 ∧ DT H' dh T (12 * i + (E - 2)) ∧ TInv T (t + 40) B E)
              (fun (σ : L2.St) (_ : Hp) => match σ[9]? with | some (some (V.int E)) => 20 - E.toNat | _ => 0) ⟨2, T, ?_, Nat.le_refl 2, by decide, hT, iT⟩ ?_
            · rw [show B ^ 2 = B * B from Nat.pow_two B]
              push_cast
              rfl
            · rintro σ H13 ⟨E, T, rfl, E2, E12, hT, iT⟩
              walk_at "pw"
              refine r_ite (fun hlt => ?_) (fun hge => ?_)
              · have hlt' : B ^ E < t + 40 := by omega
                have hT3 : B ^ E < 3040 := by omega
                have E11 : E ≤ 11 := by
                  refine Nat.le_of_not_lt fun z => ?_
                  have h6 : (2 : Nat) ^ 12 ≤ 2 ^ E := Nat.pow_le_pow_right (by decide) z
                  have h7 : (2 : Nat) ^ E ≤ B ^ E := Nat.pow_le_pow_left (by omega) E
                  omega
                refine whileGo fun N hN => ?_
                walk_at "pw"
                refine r_dput ?_
                walk_at "pw"
                refine r_dget2 ?_
                walk_at "pw"
                refine ⟨dh, rfl, hT.isD, ?_⟩
                walk_at "pw"
                refine newT (by simp) fun z Hz nz hz sz => ?_
                have hTz := hT.same sz
                obtain ⟨o, p, ps, hget, ho, hp, hP⟩ := hTz.getx (B ^ E) hz
                refine ⟨o, hget, ?_⟩
                rw [ho]
                walk_at "pw"
                refine newT (by simp) fun p1 H14 np1 hp1 s14 => ?_
                walk_at "pw"
                refine newT (by simp) fun p2 H15 np2 hp2 s15 => ?_
                have hv1 : H15 p1 = some (vp (E, B)) := s15 _ _ hp1
                have hps : ps.length ≤ 10000 := hP.len_le (Nat.le_trans (iT.len (by omega) (by omega) _) (by decide))
                refine r_catTA (s15 _ _ (s14 _ _ hp)) ((hP.same s14).same s15) hp2 hv1 hps fun cc qs H16 s16 hc hQ => ?_
                walk_at "pw"
                obtain ⟨H17, hput, hT17⟩ := DT.put (D := fun H' => DT H' dh (fun u => if u = B ^ E then T (B ^ E) ++ [(E, B)] else T u) (12 * i + (E - 2) + 1)) (((hTz.same s14).same s15).same s16) (by omega) hc hQ (fun H' h => h)
                refine ⟨dh, H17, rfl, hput, ?_⟩
                walk_at "pw"
                refine r_I (mulx_of 40 40 (by omega) (by omega) (by decide)) ?_
                walk_at "pw"
                refine hN _ _ ⟨E + 1, _, ?_, by omega, by omega, hT17.mono (by omega), iT.push (by omega) E2 hlt'⟩ ?_
                · rw [Nat.pow_succ]
                  push_cast
                  rfl
                · show 20 - ((E : Int) + 1).toNat < 20 - ((E : Nat) : Int).toNat
                  omega
              · walk_at "pw"
                refine ⟨T, _, _, _, rfl, hT.mono (by omega), ?_⟩
                have := iT.next (by omega) (show t + 40 ≤ B ^ E by omega)
                rw [hB] at this
                exact this
          · rintro σ H12 ⟨T, v7, v8, v9, rfl, hT, iT⟩
            walk_at "pw"
            obtain ⟨lo, hlo, hlo2⟩ : ∃ lo : Nat, (if (t : Int) > 2 then (t : Int) else 2) = (lo : Int) ∧ (2 ≤ lo ∧ lo ≤ t + 2) := by
              by_cases z : (t : Int) > 2
              · exact ⟨t, if_pos z, by omega, by omega⟩
              · exact ⟨2, if_neg z, by decide, by omega⟩
            rw [hlo]
            refine ⟨⟨by omega, by omega, by omega, by omega⟩, for_range (fun i σ H' => ∃ (v7 v8 v9 v10 v11 : Option V), σ = [some (.ref a), some (.ref d), some (.ref l), some (.ref D), v4, some (.int (t : Int)), some (.ref dh), v7, v8, v9, v10, v11] ∧ DT H' dh T (12 * 58))
              ⟨_, _, _, _, _, rfl, hT⟩ ?_ ?_⟩
            · rintro i σ H13 hi ⟨v7, v8, v9, v10, v11, rfl, hT⟩
              obtain ⟨n, hn⟩ : ∃ n : Nat, n = lo + i := ⟨_, rfl⟩
              have nM : n < t + 40 := by omega
              rw [show (lo : Int) + (i : Int) = (n : Int) by omega]
              walk_at "pw"
              refine r_dget2 ?_
              walk_at "pw"
              refine ⟨dh, rfl, hT.isD, ?_⟩
              walk_at "pw"
              refine newT (by simp) fun z Hz nz hz sz => ?_
              obtain ⟨o, p, ps, hget, ho, hp, hP⟩ := (hT.same sz).getx n hz
              refine ⟨o, hget, ?_⟩
              rw [ho]
              walk_at "pw"
              have iT' : TInv T (t + 40) 60 2 := iT
              refine r_sortedPT (SqT.of hp) hP (iT.apart n) fun S Hs qs zs nS hS2 ss hQ hperm hasc => ?_
              refine r_exL (SqL.of hS2) ?_
              intro C nC
              have zl : zs.length ≤ 1000 := by
                rw [hperm.length_eq]
                exact iT.len (by omega) (by omega) n
              refine lc_list (xs := qs.map V.ref) (fun i H' => ∃ rs : List Addr, H' C = some (.lst (rs.map V.ref)) ∧ PairsAt H' rs ((zs.take i).map fun z => (z.2, z.1)) ∧ Same Hs H')
                ⟨[], upd_same, by rw [List.take_zero]; exact PairsAt.nil, same_new nC⟩ (fun i H' _ ⟨_, _, _, s'⟩ => SqL.of (s' _ _ hS2)) ?_ ?_
              · rintro i x H14 hx ⟨rs, hC, hR, s14⟩
                have hi2 : i < qs.length := by
                  have := (List.getElem?_eq_some_iff.mp hx).1
                  rwa [List.length_map] at this
                have ex : x = V.ref qs[i] := by
                  rw [List.getElem?_map, List.getElem?_eq_getElem hi2] at hx
                  exact (Option.some.inj hx).symm
                subst ex
                have hi3 : i < zs.length := by rw [← hQ.1]; exact hi2
                have hrow := (hQ.same s14).2 i qs[i] _ (List.getElem?_eq_getElem hi2) (List.getElem?_eq_getElem hi3)
                have hrs : rs.length ≤ 1000 := by
                  have := hR.1
                  rw [List.length_map, List.length_take] at this
                  omega
                refine r_gTup2 hrow ?_
                refine ⟨rfl, ?_⟩
                walk_at "pw"
                refine newT (by simp) fun p9 H15 np9 hp9 s15 => ?_
                have hv9 : H15 p9 = some (vp (zs[i].2, zs[i].1)) := hp9
                have hC15 := s15 _ _ hC
                refine ⟨_, hC15, by rw [List.length_map]; exact Nat.lt_of_le_of_lt hrs (by decide), rs ++ [p9], by rw [upd_same, List.map_append]; rfl, ?_, same_updNew (s14.trans s15) nC⟩
                rw [List.take_add_one, List.getElem?_eq_getElem hi3, List.map_append]
                exact ((hR.same s15).push hv9).upd hC15
              · rintro H14 ⟨rs, hC, hR, s14⟩
                rw [List.length_map, hQ.1, List.take_length] at hR
                obtain ⟨b, g, hgw⟩ := GW.ex n
                rw [iT'.ways (by omega) nM (by omega) hgw hperm hasc] at hR
                walk_at "pw"
                refine r_tupleOf (SqL.of hC) fun tt H15 nt ht s15 => ?_
                walk_at "pw"
                refine ⟨n, tt, rs, b, g, rfl, Nat.lt_trans (show n < 2 ^ 12 by omega) (Nat.pow_lt_pow_right (by decide) (by decide)), hgw, ht, hR.same s15, fun H16 s16 => ?_⟩
                walk_at "pw"
                exact ⟨_, _, _, _, _, rfl, hT.same (sz.trans (ss.trans (s14.trans (s15.trans s16))))⟩
            · rintro σ H13 ⟨v7, v8, v9, v10, v11, rfl, hT⟩
              walk_at "pw"
              refine ⟨64, rfl, by decide, fun b g p ps H14 hgw _ np s14 hp hP => ?_⟩
              obtain ⟨rfl, rfl⟩ := hgw.uniq gw_64
              walk_at "pw"
              refine newT (by simp) fun p1 H15 np1 hp1 s15 => ?_
              walk_at "pw"
              refine newT (by simp) fun p2 H16 np2 hp2 s16 => ?_
              walk_at "pw"
              refine newT (by simp) fun p3 H17 np3 hp3 s17 => ?_
              walk_at "pw"
              refine newT (by simp) fun p4 H18 np4 hp4 s18 => ?_
              have s148 : Same H14 H18 := s15.trans (s16.trans (s17.trans s18))
              have hv1 : H18 p1 = some (vp (8, 2)) := s18 _ _ (s17 _ _ (s16 _ _ hp1))
              have hv2 : H18 p2 = some (vp (4, 3)) := s18 _ _ (s17 _ _ hp2)
              have hv3 : H18 p3 = some (vp (2, 6)) := s18 _ _ hp3
              refine r_eqPT (ps := ps) (zs := waysL 2 6) (qs := [p1, p2, p3]) (ws := [(8, 2), (4, 3), (2, 6)]) (SqT.of (s148 _ _ hp)) (hP.same s148) (SqT.of hp4) (((PairsAt.nil.push hv1).push hv2).push hv3) ?_
              rw [decide_eq_true (by decide)]
              walk_at "pw"
              refine ⟨0, rfl, by decide, fun b g p5 ps5 H19 hgw _ np s19 hp5 hP5 => ?_⟩
              obtain ⟨rfl, rfl⟩ := hgw.uniq (.inl ⟨rfl, rfl, rfl⟩)
              walk_at "pw"
              refine newT (by simp) fun p6 H20 np6 hp6 s20 => ?_
              refine r_eqPT (ps := ps5) (zs := waysL 0 1) (qs := []) (ws := []) (SqT.of (s20 _ _ hp5)) (hP5.same s20) (SqT.of hp6) PairsAt.nil ?_
              rw [decide_eq_true (by decide)]
              walk_at "pw"
              refine ⟨1, rfl, by decide, fun b g H21 hgw s21 => ?_⟩
              obtain ⟨rfl, rfl⟩ := hgw.uniq (.inr (.inl ⟨rfl, rfl, rfl⟩))
              walk_at "pw"
              exact ⟨_, _, rfl, rfl, q _⟩
end
end K05

namespace K05
open PySem PySem.Spec PyProof.Rows L2 Pw SX
section
theorem all_mk {l : PySem.W.OpenLaw} {w : World} {K : PySem.W.Frag} {h : Heap} {mg : Str → Option Value} {fa : Addr} (X : K.In h) (G : h.Ns mainGlobals mg) (hfa : mg "law" = some (.ref fa))
    {od0 an0 : Option Addr} {sl0 : Array (Option Value)} {oc0 kV0 dc0 pm0 cd0 ct0 : Value} {f0 : Addr}
    (a0 : PySem.W.nsIn K mainGlobals "root_of" = some (some (.ref f0))) (l0 : K.lookup f0 = some ⟨oc0, od0, .func (PySem.W.fnOf "root_of" "root_of" (defArgs s_root_of) (defBody s_root_of) (defScope s_root_of) .none kV0 dc0 pm0 an0 cd0 ct0), sl0⟩) (c0 : PySem.W.codeIn K cd0 "root_of" = true) (k0 : PySem.W.keepIn K (.ref f0) = true)
    {od1 an1 : Option Addr} {sl1 : Array (Option Value)} {oc1 kV1 dc1 pm1 cd1 ct1 : Value} {f1 : Addr}
    (a1 : PySem.W.nsIn K mainGlobals "_root" = some (some (.ref f1))) (l1 : K.lookup f1 = some ⟨oc1, od1, .func (PySem.W.fnOf "_root" "_root" (defArgs s_root) (defBody s_root) (defScope s_root) .none kV1 dc1 pm1 an1 cd1 ct1), sl1⟩) (c1 : PySem.W.codeIn K cd1 "_root" = true) (k1 : PySem.W.keepIn K (.ref f1) = true)
    {od2 an2 : Option Addr} {sl2 : Array (Option Value)} {oc2 kV2 dc2 pm2 cd2 ct2 : Value} {f2 : Addr}
    (a2 : PySem.W.nsIn K mainGlobals "_newton_step" = some (some (.ref f2))) (l2 : K.lookup f2 = some ⟨oc2, od2, .func (PySem.W.fnOf "_newton_step" "_newton_step" (defArgs s_newton_step) (defBody s_newton_step) (defScope s_newton_step) .none kV2 dc2 pm2 an2 cd2 ct2), sl2⟩) (c2 : PySem.W.codeIn K cd2 "_newton_step" = true) (k2 : PySem.W.keepIn K (.ref f2) = true)
    {od3 an3 : Option Addr} {sl3 : Array (Option Value)} {oc3 kV3 dc3 pm3 cd3 ct3 : Value} {f3 : Addr}
    (a3 : PySem.W.nsIn K mainGlobals "taken" = some (some (.ref f3))) (l3 : K.lookup f3 = some ⟨oc3, od3, .func (PySem.W.fnOf "taken" "taken" (defArgs s_taken) (defBody s_taken) (defScope s_taken) .none kV3 dc3 pm3 an3 cd3 ct3), sl3⟩) (c3 : PySem.W.codeIn K cd3 "taken" = true) (k3 : PySem.W.keepIn K (.ref f3) = true)
    {od4 an4 : Option Addr} {sl4 : Array (Option Value)} {oc4 kV4 dc4 pm4 cd4 ct4 : Value} {f4 : Addr}
    (a4 : PySem.W.nsIn K mainGlobals "next_prime" = some (some (.ref f4))) (l4 : K.lookup f4 = some ⟨oc4, od4, .func (PySem.W.fnOf "next_prime" "next_prime" (defArgs s_next_prime) (defBody s_next_prime) (defScope s_next_prime) .none kV4 dc4 pm4 an4 cd4 ct4), sl4⟩) (c4 : PySem.W.codeIn K cd4 "next_prime" = true) (k4 : PySem.W.keepIn K (.ref f4) = true)
    {od5 an5 : Option Addr} {sl5 : Array (Option Value)} {oc5 kV5 dc5 pm5 cd5 ct5 : Value} {f5 : Addr}
    (a5 : PySem.W.nsIn K mainGlobals "_is_prime" = some (some (.ref f5))) (l5 : K.lookup f5 = some ⟨oc5, od5, .func (PySem.W.fnOf "_is_prime" "_is_prime" (defArgs s_is_prime) (defBody s_is_prime) (defScope s_is_prime) .none kV5 dc5 pm5 an5 cd5 ct5), sl5⟩) (c5 : PySem.W.codeIn K cd5 "_is_prime" = true) (k5 : PySem.W.keepIn K (.ref f5) = true)
    {od6 an6 : Option Addr} {sl6 : Array (Option Value)} {oc6 kV6 dc6 pm6 cd6 ct6 : Value} {f6 : Addr}
    (a6 : PySem.W.nsIn K mainGlobals "is_power" = some (some (.ref f6))) (l6 : K.lookup f6 = some ⟨oc6, od6, .func (PySem.W.fnOf "is_power" "is_power" (defArgs s_is_power) (defBody s_is_power) (defScope s_is_power) .none kV6 dc6 pm6 an6 cd6 ct6), sl6⟩) (c6 : PySem.W.codeIn K cd6 "is_power" = true) (k6 : PySem.W.keepIn K (.ref f6) = true)
    {od7 an7 : Option Addr} {sl7 : Array (Option Value)} {oc7 kV7 dc7 pm7 cd7 ct7 : Value} {f7 : Addr}
    (a7 : PySem.W.nsIn K mainGlobals "ways_of" = some (some (.ref f7))) (l7 : K.lookup f7 = some ⟨oc7, od7, .func (PySem.W.fnOf "ways_of" "ways_of" (defArgs s_ways_of) (defBody s_ways_of) (defScope s_ways_of) .none kV7 dc7 pm7 an7 cd7 ct7), sl7⟩) (c7 : PySem.W.codeIn K cd7 "ways_of" = true) (k7 : PySem.W.keepIn K (.ref f7) = true)
    {od8 an8 : Option Addr} {sl8 : Array (Option Value)} {oc8 kV8 dc8 pm8 cd8 ct8 : Value} {f8 : Addr}
    (a8 : PySem.W.nsIn K mainGlobals "greatest_way" = some (some (.ref f8))) (l8 : K.lookup f8 = some ⟨oc8, od8, .func (PySem.W.fnOf "greatest_way" "greatest_way" (defArgs s_greatest_way) (defBody s_greatest_way) (defScope s_greatest_way) .none kV8 dc8 pm8 an8 cd8 ct8), sl8⟩) (c8 : PySem.W.codeIn K cd8 "greatest_way" = true) (k8 : PySem.W.keepIn K (.ref f8) = true)
    {od9 an9 : Option Addr} {sl9 : Array (Option Value)} {oc9 kV9 dc9 pm9 cd9 ct9 : Value} {f9 : Addr}
    (a9 : PySem.W.nsIn K mainGlobals "_law_mix" = some (some (.ref f9))) (l9 : K.lookup f9 = some ⟨oc9, od9, .func (PySem.W.fnOf "_law_mix" "_law_mix" (defArgs s_law_mix) (defBody s_law_mix) (defScope s_law_mix) .none kV9 dc9 pm9 an9 cd9 ct9), sl9⟩) (c9 : PySem.W.codeIn K cd9 "_law_mix" = true) (k9 : PySem.W.keepIn K (.ref f9) = true)
    {od10 an10 : Option Addr} {sl10 : Array (Option Value)} {oc10 kV10 dc10 pm10 cd10 ct10 : Value} {f10 : Addr}
    (a10 : PySem.W.nsIn K mainGlobals "_law_deck" = some (some (.ref f10))) (l10 : K.lookup f10 = some ⟨oc10, od10, .func (PySem.W.fnOf "_law_deck" "_law_deck" (defArgs s_law_deck) (defBody s_law_deck) (defScope s_law_deck) .none kV10 dc10 pm10 an10 cd10 ct10), sl10⟩) (c10 : PySem.W.codeIn K cd10 "_law_deck" = true) (k10 : PySem.W.keepIn K (.ref f10) = true)
    {od11 an11 : Option Addr} {sl11 : Array (Option Value)} {oc11 kV11 dc11 pm11 cd11 ct11 : Value} {f11 : Addr}
    (a11 : PySem.W.nsIn K mainGlobals "_law_next" = some (some (.ref f11))) (l11 : K.lookup f11 = some ⟨oc11, od11, .func (PySem.W.fnOf "_law_next" "_law_next" (defArgs s_law_next) (defBody s_law_next) (defScope s_law_next) .none kV11 dc11 pm11 an11 cd11 ct11), sl11⟩) (c11 : PySem.W.codeIn K cd11 "_law_next" = true) (k11 : PySem.W.keepIn K (.ref f11) = true)
    {od12 an12 : Option Addr} {sl12 : Array (Option Value)} {oc12 kV12 dc12 pm12 cd12 ct12 : Value} {f12 : Addr}
    (a12 : PySem.W.nsIn K mainGlobals "_law_great" = some (some (.ref f12))) (l12 : K.lookup f12 = some ⟨oc12, od12, .func (PySem.W.fnOf "_law_great" "_law_great" (defArgs s_law_great) (defBody s_law_great) (defScope s_law_great) .none kV12 dc12 pm12 an12 cd12 ct12), sl12⟩) (c12 : PySem.W.codeIn K cd12 "_law_great" = true) (k12 : PySem.W.keepIn K (.ref f12) = true)
    {od13 an13 : Option Addr} {sl13 : Array (Option Value)} {oc13 kV13 dc13 pm13 cd13 ct13 : Value} {f13 : Addr}
    (a13 : PySem.W.nsIn K mainGlobals "_law_a_power" = some (some (.ref f13))) (l13 : K.lookup f13 = some ⟨oc13, od13, .func (PySem.W.fnOf "_law_a_power" "_law_a_power" (defArgs s_law_a_power) (defBody s_law_a_power) (defScope s_law_a_power) .none kV13 dc13 pm13 an13 cd13 ct13), sl13⟩) (c13 : PySem.W.codeIn K cd13 "_law_a_power" = true) (k13 : PySem.W.keepIn K (.ref f13) = true)
    {od14 an14 : Option Addr} {sl14 : Array (Option Value)} {oc14 kV14 dc14 pm14 cd14 ct14 : Value} {f14 : Addr}
    (a14 : PySem.W.nsIn K mainGlobals "_law_number" = some (some (.ref f14))) (l14 : K.lookup f14 = some ⟨oc14, od14, .func (PySem.W.fnOf "_law_number" "_law_number" (defArgs s_law_number) (defBody s_law_number) (defScope s_law_number) .none kV14 dc14 pm14 an14 cd14 ct14), sl14⟩) (c14 : PySem.W.codeIn K cd14 "_law_number" = true) (k14 : PySem.W.keepIn K (.ref f14) = true)
    {od15 an15 : Option Addr} {sl15 : Array (Option Value)} {oc15 kV15 dc15 pm15 cd15 ct15 : Value} {f15 : Addr}
    (a15 : PySem.W.nsIn K mainGlobals "_law_taken" = some (some (.ref f15))) (l15 : K.lookup f15 = some ⟨oc15, od15, .func (PySem.W.fnOf "_law_taken" "_law_taken" (defArgs s_law_taken) (defBody s_law_taken) (defScope s_law_taken) .none kV15 dc15 pm15 an15 cd15 ct15), sl15⟩) (c15 : PySem.W.codeIn K cd15 "_law_taken" = true) (k15 : PySem.W.keepIn K (.ref f15) = true)
    {od16 an16 : Option Addr} {sl16 : Array (Option Value)} {oc16 kV16 dc16 pm16 cd16 ct16 : Value} {f16 : Addr}
    (a16 : PySem.W.nsIn K mainGlobals "_law_root" = some (some (.ref f16))) (l16 : K.lookup f16 = some ⟨oc16, od16, .func (PySem.W.fnOf "_law_root" "_law_root" (defArgs s_law_root) (defBody s_law_root) (defScope s_law_root) .none kV16 dc16 pm16 an16 cd16 ct16), sl16⟩) (c16 : PySem.W.codeIn K cd16 "_law_root" = true) (k16 : PySem.W.keepIn K (.ref f16) = true)
    {od17 an17 : Option Addr} {sl17 : Array (Option Value)} {oc17 kV17 dc17 pm17 cd17 ct17 : Value} {f17 : Addr}
    (a17 : PySem.W.nsIn K mainGlobals "_law_ways" = some (some (.ref f17))) (l17 : K.lookup f17 = some ⟨oc17, od17, .func (PySem.W.fnOf "_law_ways" "_law_ways" (defArgs s_law_ways) (defBody s_law_ways) (defScope s_law_ways) .none kV17 dc17 pm17 an17 cd17 ct17), sl17⟩) (c17 : PySem.W.codeIn K cd17 "_law_ways" = true) (k17 : PySem.W.keepIn K (.ref f17) = true)
    {od18 an18 : Option Addr} {sl18 : Array (Option Value)} {oc18 kV18 dc18 pm18 cd18 ct18 : Value} {f18 : Addr}
    (a18 : PySem.W.nsIn K mainGlobals "_law_right" = some (some (.ref f18))) (l18 : K.lookup f18 = some ⟨oc18, od18, .func (PySem.W.fnOf "_law_right" "_law_right" (defArgs s_law_right) (defBody s_law_right) (defScope s_law_right) .none kV18 dc18 pm18 an18 cd18 ct18), sl18⟩) (c18 : PySem.W.codeIn K cd18 "_law_right" = true) (k18 : PySem.W.keepIn K (.ref f18) = true)
    {od19 an19 : Option Addr} {sl19 : Array (Option Value)} {oc19 kV19 dc19 pm19 cd19 ct19 : Value} {f19 : Addr}
    (a19 : PySem.W.nsIn K mainGlobals "law" = some (some (.ref f19))) (l19 : K.lookup f19 = some ⟨oc19, od19, .func (PySem.W.fnOf "law" "law" (defArgs s_law) (defBody s_law) (defScope s_law) .none kV19 dc19 pm19 an19 cd19 ct19), sl19⟩) (c19 : PySem.W.codeIn K cd19 "law" = true) (k19 : PySem.W.keepIn K (.ref f19) = true)
    (z_len : PySem.W.nsIn K mainGlobals "len" = some none)
    (z_range : PySem.W.nsIn K mainGlobals "range" = some none)
    (z_sum : PySem.W.nsIn K mainGlobals "sum" = some none)
    (z_min : PySem.W.nsIn K mainGlobals "min" = some none)
    (z_max : PySem.W.nsIn K mainGlobals "max" = some none)
    (z_reversed : PySem.W.nsIn K mainGlobals "reversed" = some none)
    (z_isinstance : PySem.W.nsIn K mainGlobals "isinstance" = some none)
    (z_int : PySem.W.nsIn K mainGlobals "int" = some none)
    (z_bool : PySem.W.nsIn K mainGlobals "bool" = some none)
    (z_tuple : PySem.W.nsIn K mainGlobals "tuple" = some none)
    (z_list : PySem.W.nsIn K mainGlobals "list" = some none)
    (z_str : PySem.W.nsIn K mainGlobals "str" = some none)
    (z_sorted : PySem.W.nsIn K mainGlobals "sorted" = some none)
    (z_divmod : PySem.W.nsIn K mainGlobals "divmod" = some none)
    (z_enumerate : PySem.W.nsIn K mainGlobals "enumerate" = some none)
    (z_abs : PySem.W.nsIn K mainGlobals "abs" = some none)
    (z_zip : PySem.W.nsIn K mainGlobals "zip" = some none)
    (z_set : PySem.W.nsIn K mainGlobals "set" = some none)
    (z_dict : PySem.W.nsIn K mainGlobals "dict" = some none)
    (y_isqrt : PySem.W.nsIn K mainGlobals "isqrt" = some (some (.builtin "math.isqrt"))) :
    ∃ fd : FuncData, (∀ (s : Shared) (v : Value), BindsTo s fd ⟨[v], []⟩ [("script", v)]) ∧ ∀ base : Heap, K.In base → base.Ns mainGlobals mg → FnOk l.prog w K mg base CX0 8 fa fd ["script"] (spLaw K) := by
  have e := hfa.symm.trans (PySem.W.mg_of X G a19)
  cases e
  have B : Bl mg := ⟨PySem.W.mg_none_of X G z_len, PySem.W.mg_none_of X G z_range, PySem.W.mg_none_of X G z_sum, PySem.W.mg_none_of X G z_min, PySem.W.mg_none_of X G z_max, PySem.W.mg_none_of X G z_reversed, PySem.W.mg_none_of X G z_isinstance, PySem.W.mg_none_of X G z_int, PySem.W.mg_none_of X G z_bool, PySem.W.mg_none_of X G z_tuple, PySem.W.mg_none_of X G z_list, PySem.W.mg_none_of X G z_str, PySem.W.mg_none_of X G z_sorted, PySem.W.mg_none_of X G z_divmod, PySem.W.mg_none_of X G z_enumerate, PySem.W.mg_none_of X G z_abs, PySem.W.mg_none_of X G z_zip, PySem.W.mg_none_of X G z_set, PySem.W.mg_none_of X G z_dict⟩
  have M_isqrt := PySem.W.mg_of X G y_isqrt
  have P_root_of : Pl K mg "root_of" s_root_of ["number", "exponent"] := pl_mk X G a0 l0 c0 k0 fun _ _ _ _ _ _ us hl => match us, hl with | [_, _], _ => rfl
  have P_root : Pl K mg "_root" s_root ["number", "exponent"] := pl_mk X G a1 l1 c1 k1 fun _ _ _ _ _ _ us hl => match us, hl with | [_, _], _ => rfl
  have P_newton_step : Pl K mg "_newton_step" s_newton_step ["number", "exponent", "root"] := pl_mk X G a2 l2 c2 k2 fun _ _ _ _ _ _ us hl => match us, hl with | [_, _, _], _ => rfl
  have P_taken : Pl K mg "taken" s_taken ["base", "exponent"] := pl_mk X G a3 l3 c3 k3 fun _ _ _ _ _ _ us hl => match us, hl with | [_, _], _ => rfl
  have P_next_prime : Pl K mg "next_prime" s_next_prime ["number"] := pl_mk X G a4 l4 c4 k4 fun _ _ _ _ _ _ us hl => match us, hl with | [_], _ => rfl
  have P_is_prime : Pl K mg "_is_prime" s_is_prime ["number"] := pl_mk X G a5 l5 c5 k5 fun _ _ _ _ _ _ us hl => match us, hl with | [_], _ => rfl
  have P_is_power : Pl K mg "is_power" s_is_power ["number"] := pl_mk X G a6 l6 c6 k6 fun _ _ _ _ _ _ us hl => match us, hl with | [_], _ => rfl
  have P_ways_of : Pl K mg "ways_of" s_ways_of ["number"] := pl_mk X G a7 l7 c7 k7 fun _ _ _ _ _ _ us hl => match us, hl with | [_], _ => rfl
  have P_greatest_way : Pl K mg "greatest_way" s_greatest_way ["number"] := pl_mk X G a8 l8 c8 k8 fun _ _ _ _ _ _ us hl => match us, hl with | [_], _ => rfl
  have P_law_mix : Pl K mg "_law_mix" s_law_mix ["cell", "k"] := pl_mk X G a9 l9 c9 k9 fun _ _ _ _ _ _ us hl => match us, hl with | [_, _], _ => rfl
  have P_law_deck : Pl K mg "_law_deck" s_law_deck ["script"] := pl_mk X G a10 l10 c10 k10 fun _ _ _ _ _ _ us hl => match us, hl with | [_], _ => rfl
  have P_law_next : Pl K mg "_law_next" s_law_next ["deck", "many"] := pl_mk X G a11 l11 c11 k11 fun _ _ _ _ _ _ us hl => match us, hl with | [_, _], _ => rfl
  have P_law_great : Pl K mg "_law_great" s_law_great ["deck", "most"] := pl_mk X G a12 l12 c12 k12 fun _ _ _ _ _ _ us hl => match us, hl with | [_, _], _ => rfl
  have P_law_a_power : Pl K mg "_law_a_power" s_law_a_power ["deck", "most"] := pl_mk X G a13 l13 c13 k13 fun _ _ _ _ _ _ us hl => match us, hl with | [_, _], _ => rfl
  have P_law_number : Pl K mg "_law_number" s_law_number ["deck", "most"] := pl_mk X G a14 l14 c14 k14 fun _ _ _ _ _ _ us hl => match us, hl with | [_, _], _ => rfl
  have P_law_taken : Pl K mg "_law_taken" s_law_taken ["base", "exponent"] := pl_mk X G a15 l15 c15 k15 fun _ _ _ _ _ _ us hl => match us, hl with | [_, _], _ => rfl
  have P_law_root : Pl K mg "_law_root" s_law_root ["number", "exponent"] := pl_mk X G a16 l16 c16 k16 fun _ _ _ _ _ _ us hl => match us, hl with | [_, _], _ => rfl
  have P_law_ways : Pl K mg "_law_ways" s_law_ways ["number"] := pl_mk X G a17 l17 c17 k17 fun _ _ _ _ _ _ us hl => match us, hl with | [_], _ => rfl
  have P_law_right : Pl K mg "_law_right" s_law_right ["number", "due"] := pl_mk X G a18 l18 c18 k18 fun _ _ _ _ _ _ us hl => match us, hl with | [_, _], _ => rfl
  have F := fun_mk (st := s_law) l19 c19 k19
  refine ⟨PySem.W.fnOf "law" "law" (defArgs s_law) (defBody s_law) (defScope s_law) .none kV19 dc19 pm19 an19 cd19 ct19, fun s v => .of_eq rfl, fun base _ _ => ?_⟩
  have D1 := ok_law_mix (P := l.prog) (w := w) (base := base) P_law_mix
  have D2 := ok_law_deck (P := l.prog) (w := w) (base := base) P_law_deck B
  have D3 := ok_law_next P_law_next B D1
  have D4 := ok_law_great P_law_great B D3
  have D5 := ok_law_a_power P_law_a_power B D3 D4
  have D6 := ok_law_number P_law_number B D3 D4 D5
  have D7 := ok_taken (P := l.prog) (w := w) (base := base) P_taken B
  have D8 := ok_newton_step P_newton_step D7
  have D9 := ok_root P_root M_isqrt D8
  have D10 := ok_root_of P_root_of D9 D7
  have D11 := ok_is_prime (P := l.prog) (w := w) (base := base) P_is_prime B M_isqrt
  have D12 := ok_next_prime P_next_prime D11
  have D13 := ok_greatest_way P_greatest_way D10 D12
  have D14 := ok_is_power P_is_power D13
  have D15 := ok_ways_of P_ways_of B D13 D7
  have D16 := ok_law_taken (P := l.prog) (w := w) (base := base) P_law_taken B
  have D17 := ok_law_root (P := l.prog) (w := w) (base := base) P_law_root B
  have D18 := ok_law_ways P_law_ways B D17 D16
  have D19 := ok_law_right P_law_right B D15 D14
  exact ok_law F B D2 D3 D6 D18 D19 D15 D14
end
end K05
open PySem PySem.W PyProof.Rows
set_option maxRecDepth 100000 in
set_option maxHeartbeats 0 in
theorem PySem.Challenge.cw_powernumbers_k05_ways_of_powers_holds : PySem.Challenge.rw_powernumbers_k05_ways_of_powers.Holds := by
  w_on; o_law; k_head; (case hw => w_witness2)
  k_fill
  refine L2.walk_of (l := PySem.Challenge.rw_powernumbers_k05_ways_of_powers) (n := 63) (k := 8) (x := "script") (CX := fun _ => L2.CX0) (sp := fun w => Pw.spLaw _) rfl (by decide) rfl ⟨rfl, by decide, by decide⟩ (fun w h Y => PySem.W.kIn_of Y) ?F (fun _ _ a ns hl _ hS => ⟨a, ns, rfl, hS, hl, fun _ => rfl⟩) (fun _ _ _ _ _ h => h)
  case F =>
    intro w mg fa h KX G hmg
    refine' K05.all_mk KX G hmg ?a0 ?l0 ?c0 ?k0 ?a1 ?l1 ?c1 ?k1 ?a2 ?l2 ?c2 ?k2 ?a3 ?l3 ?c3 ?k3 ?a4 ?l4 ?c4 ?k4 ?a5 ?l5 ?c5 ?k5 ?a6 ?l6 ?c6 ?k6 ?a7 ?l7 ?c7 ?k7 ?a8 ?l8 ?c8 ?k8 ?a9 ?l9 ?c9 ?k9 ?a10 ?l10 ?c10 ?k10 ?a11 ?l11 ?c11 ?k11 ?a12 ?l12 ?c12 ?k12 ?a13 ?l13 ?c13 ?k13 ?a14 ?l14 ?c14 ?k14 ?a15 ?l15 ?c15 ?k15 ?a16 ?l16 ?c16 ?k16 ?a17 ?l17 ?c17 ?k17 ?a18 ?l18 ?c18 ?k18 ?a19 ?l19 ?c19 ?k19 ?z_len ?z_range ?z_sum ?z_min ?z_max ?z_reversed ?z_isinstance ?z_int ?z_bool ?z_tuple ?z_list ?z_str ?z_sorted ?z_divmod ?z_enumerate ?z_abs ?z_zip ?z_set ?z_dict ?y_isqrt
    (case a0 => k_is)
    (case l0 => k_is)
    (case c0 => k_is)
    (case k0 => k_is)
    (case a1 => k_is)
    (case l1 => k_is)
    (case c1 => k_is)
    (case k1 => k_is)
    (case a2 => k_is)
    (case l2 => k_is)
    (case c2 => k_is)
    (case k2 => k_is)
    (case a3 => k_is)
    (case l3 => k_is)
    (case c3 => k_is)
    (case k3 => k_is)
    (case a4 => k_is)
    (case l4 => k_is)
    (case c4 => k_is)
    (case k4 => k_is)
    (case a5 => k_is)
    (case l5 => k_is)
    (case c5 => k_is)
    (case k5 => k_is)
    (case a6 => k_is)
    (case l6 => k_is)
    (case c6 => k_is)
    (case k6 => k_is)
    (case a7 => k_is)
    (case l7 => k_is)
    (case c7 => k_is)
    (case k7 => k_is)
    (case a8 => k_is)
    (case l8 => k_is)
    (case c8 => k_is)
    (case k8 => k_is)
    (case a9 => k_is)
    (case l9 => k_is)
    (case c9 => k_is)
    (case k9 => k_is)
    (case a10 => k_is)
    (case l10 => k_is)
    (case c10 => k_is)
    (case k10 => k_is)
    (case a11 => k_is)
    (case l11 => k_is)
    (case c11 => k_is)
    (case k11 => k_is)
    (case a12 => k_is)
    (case l12 => k_is)
    (case c12 => k_is)
    (case k12 => k_is)
    (case a13 => k_is)
    (case l13 => k_is)
    (case c13 => k_is)
    (case k13 => k_is)
    (case a14 => k_is)
    (case l14 => k_is)
    (case c14 => k_is)
    (case k14 => k_is)
    (case a15 => k_is)
    (case l15 => k_is)
    (case c15 => k_is)
    (case k15 => k_is)
    (case a16 => k_is)
    (case l16 => k_is)
    (case c16 => k_is)
    (case k16 => k_is)
    (case a17 => k_is)
    (case l17 => k_is)
    (case c17 => k_is)
    (case k17 => k_is)
    (case a18 => k_is)
    (case l18 => k_is)
    (case c18 => k_is)
    (case k18 => k_is)
    (case a19 => k_is)
    (case l19 => k_is)
    (case c19 => k_is)
    (case k19 => k_is)
    (case z_len => k_is)
    (case z_range => k_is)
    (case z_sum => k_is)
    (case z_min => k_is)
    (case z_max => k_is)
    (case z_reversed => k_is)
    (case z_isinstance => k_is)
    (case z_int => k_is)
    (case z_bool => k_is)
    (case z_tuple => k_is)
    (case z_list => k_is)
    (case z_str => k_is)
    (case z_sorted => k_is)
    (case z_divmod => k_is)
    (case z_enumerate => k_is)
    (case z_abs => k_is)
    (case z_zip => k_is)
    (case z_set => k_is)
    (case z_dict => k_is)
    (case y_isqrt => k_is)
#print axioms PySem.Challenge.cw_powernumbers_k05_ways_of_powers_holds
