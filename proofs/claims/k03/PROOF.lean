import PyProof.Rows.All
import HandS.ForMost
import HandS.Wide
import HandS.WideMore
import HandS.WideBits
import HandS.RevRange
import HandS.Gcd
import HandS.IsInst
import HandS.Steps
import HandS.Style
import HandS.StrMore
import Flt.RightSqrt
import HandS.Codes
import PyProof.Rows.StrPadWhole
import HandS.NoneIn
import HandS.Deep
import HandS.SortRule
import HandS.More
import HandS.SortInts
import HandS.SetFor
import KE.GoesMore
import HandS.Conv
import HandS.ExcInit
import HandS.ExcIs
import HandS.ExcField
import HandS.ClsMeth
import HandS.FStr
import HandS.ExcValue
import HandS.WordsExc
import KE.KEqDict
import PyProof.StrLawsIn
import KE.KExcStr
import PySem.Challenge.RW_powernumbers_k03_texts_of_no_numbers
set_option Elab.async false
set_option linter.all false
set_option maxRecDepth 100000
set_option maxHeartbeats 4000000
set_option exponentiation.threshold 100000
/-! Roots and powers of naturals: Newton's steps, powers by bits. -/
namespace Pm
theorem two_mul_le_sq (r x : Nat) : 2 * (r * x) ≤ r * r + x * x := by
  rcases Nat.le_total r x with h | h
  · obtain ⟨d, rfl⟩ := Nat.exists_eq_add_of_le h
    have e : r * r + (r + d) * (r + d) = 2 * (r * (r + d)) + d * d := by
      simp only [Nat.mul_add, Nat.add_mul]
      have := Nat.mul_comm r d
      omega
    omega
  · obtain ⟨d, rfl⟩ := Nat.exists_eq_add_of_le h
    have e : (x + d) * (x + d) + x * x = 2 * ((x + d) * x) + d * d := by
      simp only [Nat.mul_add, Nat.add_mul]
      have := Nat.mul_comm x d
      omega
    omega
/-- (m + 1) r x ^ m ≤ r ^ (m + 1) + m x ^ (m + 1) -/
theorem bern (r x : Nat) : ∀ m : Nat, (m + 1) * (r * x ^ m) ≤ r ^ (m + 1) + m * x ^ (m + 1)
  | 0 => by simp
  | m + 1 => by
    have ih := Nat.mul_le_mul_left r (bern r x m)
    have sq := Nat.mul_le_mul_left ((m + 1) * x ^ m) (two_mul_le_sq r x)
    have e1 : r * ((m + 1) * (r * x ^ m)) = (m + 1) * x ^ m * (r * r) := by
      simp only [Nat.mul_comm, Nat.mul_left_comm, Nat.mul_assoc]
    have e2 : r * (r ^ (m + 1) + m * x ^ (m + 1)) = r ^ (m + 2) + m * (r * x ^ (m + 1)) := by
      rw [Nat.mul_add, Nat.pow_succ r (m + 1), Nat.mul_comm r (r ^ (m + 1)), Nat.mul_left_comm]
    have e3 : (m + 1) * x ^ m * (2 * (r * x)) = (m + 1) * (r * x ^ (m + 1)) + (m + 1) * (r * x ^ (m + 1)) := by
      rw [Nat.pow_succ x m]
      have : (m + 1) * x ^ m * (2 * (r * x)) = 2 * ((m + 1) * (r * (x ^ m * x))) := by
        simp only [Nat.mul_comm, Nat.mul_left_comm, Nat.mul_assoc]
      omega
    have e4 : (m + 1) * x ^ m * (r * r + x * x) = (m + 1) * x ^ m * (r * r) + (m + 1) * x ^ (m + 2) := by
      rw [Nat.mul_add, Nat.pow_succ x (m + 1), Nat.pow_succ x m]
      have : (m + 1) * x ^ m * (x * x) = (m + 1) * (x ^ m * x * x) := by
        simp only [Nat.mul_comm, Nat.mul_left_comm, Nat.mul_assoc]
      omega
    have e5 : (m + 1) * (r * x ^ (m + 1)) = m * (r * x ^ (m + 1)) + r * x ^ (m + 1) := Nat.succ_mul _ _
    have e6 : (m + 1 + 1) * (r * x ^ (m + 1)) = (m + 1) * (r * x ^ (m + 1)) + r * x ^ (m + 1) := Nat.succ_mul _ _
    show (m + 1 + 1) * (r * x ^ (m + 1)) ≤ r ^ (m + 2) + (m + 1) * x ^ (m + 2)
    omega
/-- Newton's step for the (m + 1)-th root -/
def step (n m x : Nat) : Nat := (m * x + n / x ^ m) / (m + 1)
theorem step_up {n m x : Nat} (hx : 0 < x) : n < (step n m x + 1) ^ (m + 1) := by
  refine Nat.lt_of_not_le fun h => ?_
  have b := bern (step n m x + 1) x m
  have hp : 0 < x ^ m := Nat.pow_pos hx
  have d1 : m * x + n / x ^ m < (m + 1) * (step n m x + 1) := by
    have := Nat.lt_mul_div_succ (m * x + n / x ^ m) (show 0 < m + 1 from Nat.succ_pos m)
    exact this
  have d2 : n < x ^ m * (n / x ^ m + 1) := Nat.lt_mul_div_succ n hp
  have d3 : x ^ m * (m * x + (n / x ^ m + 1)) ≤ x ^ m * ((m + 1) * (step n m x + 1)) := Nat.mul_le_mul_left _ d1
  have e1 : x ^ m * (m * x + (n / x ^ m + 1)) = m * x ^ (m + 1) + x ^ m * (n / x ^ m + 1) := by
    rw [Nat.mul_add, Nat.pow_succ x m]
    have : x ^ m * (m * x) = m * (x ^ m * x) := Nat.mul_left_comm _ _ _
    omega
  have e2 : x ^ m * ((m + 1) * (step n m x + 1)) = (m + 1) * ((step n m x + 1) * x ^ m) := by
    simp only [Nat.mul_comm, Nat.mul_left_comm, Nat.mul_assoc]
  omega
theorem step_down {n m x : Nat} (h : n < x ^ (m + 1)) : step n m x < x := by
  have hx : 0 < x := by
    rcases Nat.eq_zero_or_pos x with e | e
    · rw [e, Nat.zero_pow (Nat.succ_pos m)] at h
      exact absurd h (Nat.not_lt_zero _)
    · exact e
  have hq : n / x ^ m < x := Nat.div_lt_of_lt_mul (by rw [← Nat.pow_succ]; exact h)
  unfold step
  refine Nat.div_lt_of_lt_mul ?_
  rw [Nat.succ_mul]
  omega
theorem pow_lt_of_lt {a b k : Nat} (h : a < b) (hk : 0 < k) : a ^ k < b ^ k := Nat.pow_lt_pow_left h (Nat.pos_iff_ne_zero.mp hk)
theorem lt_of_pow_lt {a b k : Nat} (h : a ^ k < b ^ k) : a < b := Nat.lt_of_not_le fun g => absurd h (Nat.not_lt.mpr (Nat.pow_le_pow_left g k))
/-- r is the k-th root of n -/
def IsRoot (n k r : Nat) : Prop := r ^ k ≤ n ∧ n < (r + 1) ^ k
theorem IsRoot.uniq {n k r r' : Nat} (h : IsRoot n k r) (h' : IsRoot n k r') : r = r' := by
  have a := lt_of_pow_lt (Nat.lt_of_le_of_lt h.1 h'.2)
  have b := lt_of_pow_lt (Nat.lt_of_le_of_lt h'.1 h.2)
  omega
theorem root_ex (k : Nat) (hk : 0 < k) : ∀ n : Nat, ∃ r, IsRoot n k r
  | 0 => ⟨0, by rw [Nat.zero_pow hk]; exact Nat.le_refl _, by rw [Nat.zero_add, Nat.one_pow]; exact Nat.one_pos⟩
  | n + 1 => by
    obtain ⟨r, h1, h2⟩ := root_ex k hk n
    by_cases h : (r + 1) ^ k ≤ n + 1
    · refine ⟨r + 1, h, ?_⟩
      have := pow_lt_of_lt (Nat.lt_succ_self (r + 1)) hk
      have e : (r + 1).succ = r + 1 + 1 := rfl
      rw [e] at this
      omega
    · exact ⟨r, by omega, by omega⟩
/-- powers by the exponent's bits from above -/
theorem pow_bit (b e p : Nat) : b ^ (e / 2 ^ p) = if (e / 2 ^ p) % 2 = 1 then b ^ (e / 2 ^ (p + 1)) * b ^ (e / 2 ^ (p + 1)) * b else b ^ (e / 2 ^ (p + 1)) * b ^ (e / 2 ^ (p + 1)) := by
  have e1 : e / 2 ^ (p + 1) = e / 2 ^ p / 2 := by rw [Nat.pow_succ, Nat.div_div_eq_div_mul]
  have e2 := Nat.div_add_mod (e / 2 ^ p) 2
  have l := Nat.mod_lt (e / 2 ^ p) (show 0 < 2 by decide)
  rw [e1]
  generalize e / 2 ^ p = q at *
  split
  · rw [← Nat.pow_add, ← Nat.pow_succ]
    congr 1
    omega
  · rw [← Nat.pow_add]
    congr 1
    omega
theorem pow_bound {b a e q : Nat} (hb : b < 2 ^ a) (hq : q ≤ e) : b ^ q ≤ 2 ^ (a * e) := by
  rw [Nat.pow_mul]
  refine Nat.le_trans (Nat.pow_le_pow_left (Nat.le_of_lt hb) q) ?_
  exact Nat.pow_le_pow_right (Nat.pow_pos (by decide)) hq
end Pm

/-! Perfect powers, primes by trial. -/
namespace Pm
theorem euclid_pow : ∀ (s k m a b : Nat), k + m ≤ s → 0 < a → 0 < b → Nat.Coprime k m → a ^ k = b ^ m → ∃ c, a = c ^ m ∧ b = c ^ k
  | 0, k, m, a, b, hs, ha, hb, hc, e => by
    have hk : k = 0 := by omega
    have hm : m = 0 := by omega
    subst hk
    subst hm
    exact absurd hc (by decide)
  | s + 1, k, m, a, b, hs, ha, hb, hc, e => by
    rcases Nat.eq_zero_or_pos k with hk | hk
    · subst hk
      have hm : m = 1 := by
        have : Nat.gcd 0 m = 1 := hc
        rwa [Nat.gcd_zero_left] at this
      subst hm
      rw [Nat.pow_zero, Nat.pow_one] at e
      exact ⟨a, (Nat.pow_one a).symm, by rw [Nat.pow_zero]; exact e.symm⟩
    rcases Nat.eq_zero_or_pos m with hm | hm
    · subst hm
      have hk1 : k = 1 := by
        have : Nat.gcd k 0 = 1 := hc
        rwa [Nat.gcd_zero_right] at this
      subst hk1
      rw [Nat.pow_zero, Nat.pow_one] at e
      exact ⟨b, by rw [Nat.pow_zero]; exact e, (Nat.pow_one b).symm⟩
    rcases Nat.lt_trichotomy k m with h | h | h
    · have hdvd : b ^ k ∣ a ^ k := by
        rw [e]
        exact Nat.pow_dvd_pow b (Nat.le_of_lt h)
      obtain ⟨a', rfl⟩ := (Nat.pow_dvd_pow_iff (by omega)).mp hdvd
      have ha' : 0 < a' := Nat.pos_of_mul_pos_left ha
      have e2 : a' ^ k = b ^ (m - k) := by
        rw [Nat.mul_pow, show b ^ m = b ^ k * b ^ (m - k) by rw [← Nat.pow_add]; congr 1; omega] at e
        exact Nat.eq_of_mul_eq_mul_left (Nat.pow_pos hb) e
      have hc2 : Nat.Coprime k (m - k) := by
        show Nat.gcd k (m - k) = 1
        rw [Nat.gcd_sub_self_right (Nat.le_of_lt h)]
        exact hc
      obtain ⟨c, h1, h2⟩ := euclid_pow s k (m - k) a' b (by omega) ha' hb hc2 e2
      refine ⟨c, ?_, h2⟩
      rw [h1, h2, ← Nat.pow_add]
      congr 1
      omega
    · subst h
      have hk1 : k = 1 := by
        have : Nat.gcd k k = 1 := hc
        rwa [Nat.gcd_self] at this
      subst hk1
      rw [Nat.pow_one, Nat.pow_one] at e
      exact ⟨a, (Nat.pow_one a).symm, by rw [Nat.pow_one]; exact e.symm⟩
    · have hdvd : a ^ m ∣ b ^ m := by
        rw [← e]
        exact Nat.pow_dvd_pow a (Nat.le_of_lt h)
      obtain ⟨b', rfl⟩ := (Nat.pow_dvd_pow_iff (by omega)).mp hdvd
      have hb' : 0 < b' := Nat.pos_of_mul_pos_left hb
      have e2 : a ^ (k - m) = b' ^ m := by
        rw [Nat.mul_pow, show a ^ k = a ^ m * a ^ (k - m) by rw [← Nat.pow_add]; congr 1; omega] at e
        exact Nat.eq_of_mul_eq_mul_left (Nat.pow_pos ha) e
      have hc2 : Nat.Coprime (k - m) m := by
        show Nat.gcd (k - m) m = 1
        rw [Nat.gcd_sub_self_left (Nat.le_of_lt h)]
        exact hc
      obtain ⟨c, h1, h2⟩ := euclid_pow s (k - m) m a b' (by omega) ha hb' hc2 e2
      refine ⟨c, h1, ?_⟩
      rw [h1, h2, ← Nat.pow_add]
      congr 1
      omega
/-- no power of an exponent from 2 on -/
def NotPow (b : Nat) : Prop := ∀ c k, 2 ≤ k → c ^ k ≠ b
theorem ways_of_pow {b g x k : Nat} (hb : 2 ≤ b) (hn : NotPow b) (hg : 0 < g) (hk : 0 < k) (e : x ^ k = b ^ g) : k ∣ g ∧ x = b ^ (g / k) := by
  have hx : 0 < x := by
    rcases Nat.eq_zero_or_pos x with z | z
    · rw [z, Nat.zero_pow hk] at e
      have := Nat.pow_pos (n := g) (show 0 < b by omega)
      omega
    · exact z
  obtain ⟨g', k', hc, eg, ek⟩ := Nat.exists_coprime g k
  have hd : 0 < Nat.gcd g k := Nat.gcd_pos_of_pos_left _ hg
  generalize Nat.gcd g k = d at *
  have e2 : b ^ g' = x ^ k' := by
    rw [eg, ek, Nat.pow_mul, Nat.pow_mul] at e
    exact ((Nat.pow_left_inj (by omega)).mp e).symm
  obtain ⟨c, h1, h2⟩ := euclid_pow (g' + k') g' k' b x (Nat.le_refl _) (by omega) hx hc e2
  have hk' : 0 < k' := by
    rcases Nat.eq_zero_or_pos k' with z | z
    · rw [z, Nat.zero_mul] at ek
      omega
    · exact z
  have hk1 : k' = 1 := by
    rcases Nat.lt_or_ge 1 k' with z | z
    · exact absurd h1.symm (hn c k' z)
    · omega
  subst hk1
  rw [Nat.one_mul] at ek
  rw [Nat.pow_one] at h1
  subst ek
  refine ⟨⟨g', by rw [eg, Nat.mul_comm]⟩, ?_⟩
  rw [h2, ← h1, eg, Nat.mul_div_cancel _ hk]
theorem pow_of_dvd {b g k : Nat} (h : k ∣ g) : (b ^ (g / k)) ^ k = b ^ g := by
  rw [← Nat.pow_mul, Nat.div_mul_cancel h]
/-! primes -/
def Prime (p : Nat) : Prop := 2 ≤ p ∧ ∀ d, d ∣ p → d = 1 ∨ d = p
theorem prime_of_trial {n : Nat} (h2 : 2 ≤ n) (h : ∀ d, 2 ≤ d → d * d ≤ n → ¬ d ∣ n) : Prime n := by
  refine ⟨h2, fun d hd => ?_⟩
  obtain ⟨e, rfl⟩ := hd
  have hd0 : 0 < d := Nat.pos_of_mul_pos_right (show 0 < d * e by omega)
  have he0 : 0 < e := Nat.pos_of_mul_pos_left (show 0 < d * e by omega)
  rcases Nat.lt_or_ge 1 d with z | z
  · rcases Nat.lt_or_ge 1 e with y | y
    · exfalso
      rcases Nat.le_total d e with w | w
      · exact h d z (Nat.mul_le_mul_left d w) ⟨e, rfl⟩
      · exact h e y (Nat.mul_le_mul_right e w) ⟨d, Nat.mul_comm d e⟩
    · have : e = 1 := by omega
      subst this
      exact .inr (by rw [Nat.mul_one])
  · exact .inl (by omega)
theorem not_prime_of {n d : Nat} (h2 : 2 ≤ d) (h : d * d ≤ n) (hd : d ∣ n) : ¬ Prime n := fun p => by
  rcases p.2 d hd with z | z
  · omega
  · subst z
    have : d * 2 ≤ d * d := Nat.mul_le_mul_left d h2
    omega
theorem prime_factor : ∀ n : Nat, 2 ≤ n → ∃ p, Prime p ∧ p ∣ n
  | n, h2 => by
    by_cases hp : Prime n
    · exact ⟨n, hp, Nat.dvd_refl n⟩
    · have : ∃ d, 2 ≤ d ∧ d * d ≤ n ∧ d ∣ n := by
        refine Classical.byContradiction fun hno => hp (prime_of_trial h2 fun d a b c => hno ⟨d, a, b, c⟩)
      obtain ⟨d, a, b, c⟩ := this
      have hlt : d < n := by
        have : d * 2 ≤ d * d := Nat.mul_le_mul_left d a
        omega
      obtain ⟨p, p1, p2⟩ := prime_factor d a
      exact ⟨p, p1, Nat.dvd_trans p2 c⟩
termination_by n => n
def fact : Nat → Nat
  | 0 => 1
  | n + 1 => fact n * (n + 1)
theorem fact_pos : ∀ n, 0 < fact n
  | 0 => Nat.one_pos
  | n + 1 => Nat.mul_pos (fact_pos n) (Nat.succ_pos n)
theorem dvd_fact : ∀ n d, 0 < d → d ≤ n → d ∣ fact n
  | 0, d, h, h2 => by omega
  | n + 1, d, h, h2 => by
    by_cases e : d = n + 1
    · subst e
      exact ⟨fact n, Nat.mul_comm _ _⟩
    · exact Nat.dvd_trans (dvd_fact n d h (by omega)) ⟨n + 1, rfl⟩
theorem prime_above (n : Nat) : ∃ p, n < p ∧ Prime p := by
  obtain ⟨p, hp, hd⟩ := prime_factor (fact n + 1) (by have := fact_pos n; omega)
  refine ⟨p, ?_, hp⟩
  refine Nat.lt_of_not_le fun h => ?_
  have h1 := dvd_fact n p (by have := hp.1; omega) h
  have h2 : p ∣ 1 := by
    have := Nat.dvd_sub hd h1
    rwa [Nat.add_sub_cancel_left] at this
  have := Nat.le_of_dvd Nat.one_pos h2
  have := hp.1
  omega
theorem notPow_of_primes {b : Nat} (h : ∀ q, Prime q → ∀ c, c ^ q ≠ b) : NotPow b := fun c k hk e => by
  obtain ⟨p, hp, j, rfl⟩ := prime_factor k hk
  exact h p hp (c ^ j) (by rw [← Nat.pow_mul, Nat.mul_comm]; exact e)
theorem notPow_one_lt {b k c : Nat} (hb : 2 ≤ b) (hk : b < 2 ^ k) (hk0 : 0 < k) (e : c ^ k = b) : False := by
  rcases Nat.lt_or_ge c 2 with h | h
  · have : c = 0 ∨ c = 1 := by omega
    rcases this with rfl | rfl
    · rw [Nat.zero_pow hk0] at e
      omega
    · rw [Nat.one_pow] at e
      omega
  · have := Nat.pow_le_pow_left h k
    omega
end Pm

/-! Counting powers: sums of marks, the bases by their greatest exponents, in and out. -/
namespace Pm
def S (f : Nat → Nat) : Nat → Nat
  | 0 => 0
  | n + 1 => S f n + f n
theorem S_congr {f g : Nat → Nat} : ∀ {n : Nat}, (∀ i, i < n → f i = g i) → S f n = S g n
  | 0, _ => rfl
  | n + 1, h => by
    show S f n + f n = S g n + g n
    rw [S_congr fun i hi => h i (Nat.lt_succ_of_lt hi), h n (Nat.lt_succ_self n)]
theorem S_zero : ∀ n : Nat, S (fun _ => 0) n = 0
  | 0 => rfl
  | n + 1 => by show S (fun _ => 0) n + 0 = 0; rw [S_zero n]
theorem S_add (f g : Nat → Nat) : ∀ n : Nat, S (fun i => f i + g i) n = S f n + S g n
  | 0 => rfl
  | n + 1 => by
    show S (fun i => f i + g i) n + (f n + g n) = S f n + f n + (S g n + g n)
    rw [S_add f g n]
    omega
theorem S_swap (f : Nat → Nat → Nat) (m : Nat) : ∀ n : Nat, S (fun i => S (fun j => f i j) m) n = S (fun j => S (fun i => f i j) n) m
  | 0 => (S_zero m).symm
  | n + 1 => by
    show S (fun i => S (fun j => f i j) m) n + S (fun j => f n j) m = S (fun j => S (fun i => f i j) n + f n j) m
    rw [S_swap f m n, S_add]
theorem S_one {n : Nat} (j x : Nat) : S (fun i => if i = j then x else 0) n = if j < n then x else 0 := by
  induction n with
  | zero => rfl
  | succ n ih =>
    show S (fun i => if i = j then x else 0) n + (if n = j then x else 0) = _
    rw [ih]
    by_cases h1 : j < n
    · rw [if_pos h1, if_neg (by omega), if_pos (by omega)]; rfl
    · by_cases h2 : n = j
      · rw [if_neg h1, if_pos h2, if_pos (by omega), Nat.zero_add]
      · rw [if_neg h1, if_neg h2, if_neg (by omega)]
/-- 1 where it is so, else 0 -/
noncomputable def I (p : Prop) : Nat := @ite _ p (Classical.propDecidable p) 1 0
theorem I_t {p : Prop} (h : p) : I p = 1 := by unfold I; exact if_pos h
theorem I_f {p : Prop} (h : ¬ p) : I p = 0 := by unfold I; exact if_neg h
theorem I_congr {p q : Prop} (h : p ↔ q) : I p = I q := by rw [propext h]
theorem I_ite (p : Prop) [Decidable p] : I p = if p then 1 else 0 := by
  by_cases h : p
  · rw [I_t h, if_pos h]
  · rw [I_f h, if_neg h]
theorem S2_one {A : Nat → Nat → Prop} {K M k0 c0 : Nat} (hk : k0 < K) (hc : c0 < M) (h : ∀ k c, A k c ↔ k = k0 ∧ c = c0) : S (fun k => S (fun c => I (A k c)) M) K = 1 := by
  have e : ∀ k, k < K → S (fun c => I (A k c)) M = if k = k0 then 1 else 0 := fun k _ => by
    by_cases z : k = k0
    · rw [if_pos z, S_congr (g := fun c => if c = c0 then 1 else 0) fun c _ => ?_]
      · rw [S_one, if_pos hc]
      · rw [I_congr (h k c), I_ite]
        by_cases w : c = c0
        · rw [if_pos ⟨z, w⟩, if_pos w]
        · rw [if_neg fun x => w x.2, if_neg w]
    · rw [if_neg z, S_congr (g := fun _ => 0) fun c _ => I_f fun x => z ((h k c).mp x).1, S_zero]
  rw [S_congr e, S_one, if_pos hk]
theorem S2_none {A : Nat → Nat → Prop} {K M : Nat} (h : ∀ k c, ¬ A k c) : S (fun k => S (fun c => I (A k c)) M) K = 0 := by
  rw [S_congr (g := fun _ => 0) fun k _ => ?_, S_zero]
  rw [S_congr (g := fun _ => 0) fun c _ => I_f (h k c), S_zero]
/-- a mark that only one place can have -/
theorem S_mark {A : Nat → Prop} {P : Prop} {M b0 : Nat} (h : ∀ b, A b ↔ b = b0 ∧ P) (hb : P → b0 < M) : S (fun b => I (A b)) M = I P := by
  by_cases z : P
  · rw [I_t z, S_congr (g := fun b => if b = b0 then 1 else 0) fun b _ => ?_, S_one, if_pos (hb z)]
    by_cases w : b = b0
    · rw [I_t ((h b).mpr ⟨w, z⟩), if_pos w]
    · rw [I_f fun x => w ((h b).mp x).1, if_neg w]
  · rw [I_f z, S_congr (g := fun _ => 0) fun b _ => I_f fun x => z ((h b).mp x).2, S_zero]
theorem S_upto {r : Nat} : ∀ m : Nat, S (fun b => I (2 ≤ b ∧ b ≤ r)) m = min (m - 2) (r - 1)
  | 0 => by show 0 = _; omega
  | m + 1 => by
    show S (fun b => I (2 ≤ b ∧ b ≤ r)) m + I (2 ≤ m ∧ m ≤ r) = _
    rw [S_upto m, I_ite]
    by_cases h : 2 ≤ m ∧ m ≤ r
    · rw [if_pos h]; omega
    · rw [if_neg h]; omega
/-! ### bases that are none themselves -/
def Q (c : Nat) : Prop := 2 ≤ c ∧ NotPow c
/-- how many c, no powers, from 2 on, taken to g are not above n -/
noncomputable def Nn (n g : Nat) : Nat := S (fun c => I (Q c ∧ c ^ g ≤ n)) (n + 1)
theorem pow_base1 {c k n : Nat} (hk : 1 ≤ k) (hn : 2 ≤ n) (e : c ^ k = n) : 2 ≤ c := by
  rcases Nat.lt_or_ge c 2 with h | h
  · have : c = 0 ∨ c = 1 := by omega
    rcases this with rfl | rfl
    · rw [Nat.zero_pow (by omega)] at e; omega
    · rw [Nat.one_pow] at e; omega
  · exact h
theorem Q_ex (n : Nat) : 2 ≤ n → ∃ c k : Nat, Q c ∧ 1 ≤ k ∧ c ^ k = n := by
  induction n using Nat.strongRecOn with
  | ind n ih =>
    intro n2
    by_cases h : NotPow n
    · exact ⟨n, 1, ⟨n2, h⟩, Nat.le_refl 1, Nat.pow_one n⟩
    · obtain ⟨c, k, hk, e⟩ : ∃ c k, 2 ≤ k ∧ c ^ k = n := Classical.byContradiction fun z => h fun c k hk e => z ⟨c, k, hk, e⟩
      have c2 : 2 ≤ c := pow_base1 (by omega) n2 e
      have cn : c < n := by
        rw [← e]
        have h1 : c ^ 1 < c ^ k := Nat.pow_lt_pow_right (by omega) (by omega)
        rwa [Nat.pow_one] at h1
      obtain ⟨b, g, q, g1, eg⟩ := ih c cn c2
      refine ⟨b, g * k, q, ?_, by rw [Nat.pow_mul, eg, e]⟩
      have := Nat.mul_le_mul g1 (show 1 ≤ k by omega)
      omega
theorem Q_uniq {c d k l : Nat} (hc : Q c) (hd : Q d) (hk : 1 ≤ k) (hl : 1 ≤ l) (e : c ^ k = d ^ l) : c = d ∧ k = l := by
  obtain ⟨h1, h2⟩ := ways_of_pow hd.1 hd.2 hl hk e
  obtain ⟨h3, h4⟩ := ways_of_pow hc.1 hc.2 hk hl e.symm
  have : k = l := Nat.dvd_antisymm h1 h3
  subst this
  rw [Nat.div_self (by omega), Nat.pow_one] at h2
  exact ⟨h2, rfl⟩
theorem two_pow_le {c g n : Nat} (hc : 2 ≤ c) (h : c ^ g ≤ n) : 2 ^ g ≤ n := Nat.le_trans (Nat.pow_le_pow_left hc g) h
theorem lt_of_two_pow {g K n : Nat} (h : 2 ^ g ≤ n) (hK : n < 2 ^ K) : g < K := by
  refine Nat.lt_of_not_le fun z => ?_
  have := Nat.pow_le_pow_right (show 0 < 2 by decide) z
  omega
theorem Nn_zero {n g K : Nat} (hK : n < 2 ^ K) (hg : K ≤ g) : Nn n g = 0 := by
  unfold Nn
  have z : ∀ c, ¬ (Q c ∧ c ^ g ≤ n) := fun c h => by
    have := lt_of_two_pow (two_pow_le h.1.1 h.2) hK
    omega
  rw [S_congr (g := fun _ => 0) fun c _ => I_f (z c), S_zero]
/-- the bases from 2 on whose power by e is not above n, by the greatest exponents of these powers -/
theorem roots_split {n e r K : Nat} (he : 1 ≤ e) (hr : IsRoot n e r) (hK : n < 2 ^ K) : S (fun g => if 1 ≤ g ∧ e ∣ g then Nn n g else 0) K = r - 1 := by
  have hle : ∀ b, b ^ e ≤ n ↔ b ≤ r := fun b => by
    constructor
    · intro h
      refine Nat.le_of_not_lt fun z => ?_
      have h3 : (r + 1) ^ e ≤ b ^ e := Nat.pow_le_pow_left z e
      have h4 := hr.2
      exact absurd (Nat.lt_of_lt_of_le h4 (Nat.le_trans h3 h)) (Nat.lt_irrefl _)
    · intro h
      exact Nat.le_trans (Nat.pow_le_pow_left h e) hr.1
  have hrn : r ≤ n := (hle r).mpr (Nat.le_refl r) |> fun h => Nat.le_trans (Nat.le_self_pow (by omega) r) h
  have h1 : S (fun b => I (2 ≤ b ∧ b ^ e ≤ n)) (n + 1) = r - 1 := by
    rw [S_congr (g := fun b => I (2 ≤ b ∧ b ≤ r)) fun b _ => I_congr ⟨fun ⟨x, y⟩ => ⟨x, (hle b).mp y⟩, fun ⟨x, y⟩ => ⟨x, (hle b).mpr y⟩⟩, S_upto]
    omega
  rw [← h1]
  have h2 : ∀ b, b < n + 1 → I (2 ≤ b ∧ b ^ e ≤ n) = S (fun g => S (fun c => I ((1 ≤ g ∧ e ∣ g) ∧ Q c ∧ c ^ (g / e) = b ∧ b ^ e ≤ n)) (n + 1)) K := fun b hb => by
    by_cases z : 2 ≤ b ∧ b ^ e ≤ n
    · obtain ⟨c0, k0, q0, k1, e0⟩ := Q_ex b z.1
      have hcb : c0 ≤ b := by rw [← e0]; exact Nat.le_self_pow (by omega) c0
      have hg : c0 ^ (e * k0) ≤ n := by rw [Nat.mul_comm, Nat.pow_mul, e0]; exact z.2
      have ek : 1 ≤ e * k0 := by have := Nat.mul_le_mul he k1; omega
      rw [I_t z]
      refine (S2_one (k0 := e * k0) (c0 := c0) (lt_of_two_pow (two_pow_le q0.1 hg) hK) (by omega) fun g c => ?_).symm
      constructor
      · rintro ⟨⟨g1, ⟨l, rfl⟩⟩, qc, ec, _⟩
        rw [Nat.mul_div_cancel_left l (by omega)] at ec
        have l1 : 1 ≤ l := by
          rcases Nat.eq_zero_or_pos l with w | w
          · rw [w] at g1; omega
          · exact w
        obtain ⟨rfl, rfl⟩ := Q_uniq qc q0 l1 k1 (ec.trans e0.symm)
        exact ⟨rfl, rfl⟩
      · rintro ⟨rfl, rfl⟩
        exact ⟨⟨ek, ⟨k0, rfl⟩⟩, q0, by rw [Nat.mul_div_cancel_left k0 (by omega)]; exact e0, z.2⟩
    · rw [I_f z]
      refine (S2_none fun g c => ?_).symm
      rintro ⟨⟨g1, ⟨l, rfl⟩⟩, qc, ec, hb2⟩
      rw [Nat.mul_div_cancel_left l (by omega)] at ec
      refine z ⟨?_, hb2⟩
      rw [← ec]
      have l1 : l ≠ 0 := fun w => by rw [w] at g1; omega
      exact Nat.le_trans qc.1 (Nat.le_self_pow l1 c)
  rw [S_congr h2, S_swap]
  refine S_congr fun g _ => ?_
  rw [S_swap]
  by_cases z : 1 ≤ g ∧ e ∣ g
  · rw [if_pos z]
    unfold Nn
    refine S_congr fun c _ => ?_
    obtain ⟨g1, ⟨l, rfl⟩⟩ := z
    refine (S_mark (b0 := c ^ l) (P := Q c ∧ c ^ (e * l) ≤ n) (fun b => ?_) fun h => ?_).symm
    · rw [Nat.mul_div_cancel_left l (by omega)]
      constructor
      · rintro ⟨_, qc, rfl, h⟩
        exact ⟨rfl, qc, by rw [Nat.mul_comm, Nat.pow_mul]; exact h⟩
      · rintro ⟨rfl, qc, h⟩
        exact ⟨⟨g1, ⟨l, rfl⟩⟩, qc, rfl, by rw [← Nat.pow_mul, Nat.mul_comm]; exact h⟩
    · have : c ^ l ≤ (c ^ l) ^ e := Nat.le_self_pow (by omega) _
      rw [← Nat.pow_mul, Nat.mul_comm] at this
      have := h.2
      omega
  · rw [if_neg z, S_congr (g := fun _ => 0) fun c _ => ?_, S_zero]
    rw [S_congr (g := fun _ => 0) fun b _ => I_f fun x => z x.1, S_zero]
/-- the powers from 2 on to n, by their greatest exponents -/
def IsPow (m : Nat) : Prop := ∃ c k, 2 ≤ k ∧ c ^ k = m
theorem powers_split {n K : Nat} (hK : n < 2 ^ K) : S (fun m => I (2 ≤ m ∧ IsPow m)) (n + 1) = S (fun g => if 2 ≤ g then Nn n g else 0) K := by
  have h2 : ∀ m, m < n + 1 → I (2 ≤ m ∧ IsPow m) = S (fun g => S (fun c => I (2 ≤ g ∧ Q c ∧ c ^ g = m ∧ m ≤ n)) (n + 1)) K := fun m hm => by
    by_cases z : 2 ≤ m ∧ IsPow m
    · obtain ⟨c0, k0, q0, k1, e0⟩ := Q_ex m z.1
      have k2 : 2 ≤ k0 := by
        refine Nat.le_of_not_lt fun w => ?_
        have : k0 = 1 := by omega
        rw [this, Nat.pow_one] at e0
        obtain ⟨c, k, hk, e⟩ := z.2
        exact q0.2 c k hk (e.trans e0.symm)
      have hcb : c0 ≤ m := by rw [← e0]; exact Nat.le_self_pow (by omega) c0
      rw [I_t z]
      refine (S2_one (k0 := k0) (c0 := c0) (lt_of_two_pow (two_pow_le q0.1 (by rw [e0]; exact Nat.le_of_lt_succ hm)) hK) (by omega) fun g c => ?_).symm
      constructor
      · rintro ⟨g2, qc, ec, _⟩
        obtain ⟨rfl, rfl⟩ := Q_uniq qc q0 (by omega) k1 (ec.trans e0.symm)
        exact ⟨rfl, rfl⟩
      · rintro ⟨rfl, rfl⟩
        exact ⟨k2, q0, e0, Nat.le_of_lt_succ hm⟩
    · rw [I_f z]
      refine (S2_none fun g c => ?_).symm
      rintro ⟨g2, qc, ec, _⟩
      refine z ⟨?_, c, g, g2, ec⟩
      rw [← ec]
      exact Nat.le_trans qc.1 (Nat.le_self_pow (by omega) c)
  rw [S_congr h2, S_swap]
  refine S_congr fun g _ => ?_
  rw [S_swap]
  by_cases z : 2 ≤ g
  · rw [if_pos z]
    unfold Nn
    refine S_congr fun c _ => ?_
    refine (S_mark (b0 := c ^ g) (P := Q c ∧ c ^ g ≤ n) (fun b => ?_) fun h => Nat.lt_succ_of_le h.2)
    constructor
    · rintro ⟨_, qc, rfl, h⟩
      exact ⟨rfl, qc, h⟩
    · rintro ⟨rfl, qc, h⟩
      exact ⟨z, qc, rfl, h⟩
  · rw [if_neg z, S_congr (g := fun _ => 0) fun c _ => ?_, S_zero]
    rw [S_congr (g := fun _ => 0) fun b _ => I_f fun x => z x.1, S_zero]
/-! ### in and out -/
def SI (f : Nat → Int) : Nat → Int
  | 0 => 0
  | n + 1 => SI f n + f n
theorem SI_congr {f g : Nat → Int} : ∀ {n : Nat}, (∀ i, i < n → f i = g i) → SI f n = SI g n
  | 0, _ => rfl
  | n + 1, h => by
    show SI f n + f n = SI g n + g n
    rw [SI_congr fun i hi => h i (Nat.lt_succ_of_lt hi), h n (Nat.lt_succ_self n)]
theorem SI_zero : ∀ n : Nat, SI (fun _ => 0) n = 0
  | 0 => rfl
  | n + 1 => by show SI (fun _ => 0) n + 0 = 0; rw [SI_zero n]; rfl
theorem SI_add (f g : Nat → Int) : ∀ n : Nat, SI (fun i => f i + g i) n = SI f n + SI g n
  | 0 => rfl
  | n + 1 => by
    show SI (fun i => f i + g i) n + (f n + g n) = SI f n + f n + (SI g n + g n)
    rw [SI_add f g n]
    omega
theorem SI_swap (f : Nat → Nat → Int) (m : Nat) : ∀ n : Nat, SI (fun i => SI (fun j => f i j) m) n = SI (fun j => SI (fun i => f i j) n) m
  | 0 => (SI_zero m).symm
  | n + 1 => by
    show SI (fun i => SI (fun j => f i j) m) n + SI (fun j => f n j) m = SI (fun j => SI (fun i => f i j) n + f n j) m
    rw [SI_swap f m n, SI_add]
theorem SI_mul (x : Int) (f : Nat → Int) : ∀ n : Nat, SI (fun i => x * f i) n = x * SI f n
  | 0 => (Int.mul_zero x).symm
  | n + 1 => by
    show SI (fun i => x * f i) n + x * f n = x * (SI f n + f n)
    rw [SI_mul x f n, Int.mul_add]
theorem SI_mulr (x : Int) (f : Nat → Int) (n : Nat) : SI (fun i => f i * x) n = SI f n * x := by
  rw [SI_congr (g := fun i => x * f i) fun i _ => Int.mul_comm _ _, SI_mul, Int.mul_comm]
theorem SI_neg (f : Nat → Int) : ∀ n : Nat, SI (fun i => - f i) n = - SI f n
  | 0 => rfl
  | n + 1 => by
    show SI (fun i => - f i) n + - f n = - (SI f n + f n)
    rw [SI_neg f n]
    omega
theorem S_cast (f : Nat → Nat) : ∀ n : Nat, ((S f n : Nat) : Int) = SI (fun i => (f i : Int)) n
  | 0 => rfl
  | n + 1 => by
    show ((S f n + f n : Nat) : Int) = SI (fun i => (f i : Int)) n + (f n : Int)
    rw [← S_cast f n]
    omega
/-- signs whose sums over the divisors from 2 on are -1, below K -/
def Signs (sg : Nat → Int) (K : Nat) : Prop := ∀ g, 2 ≤ g → g < K → SI (fun e => if 2 ≤ e ∧ e ∣ g then sg e else 0) K = -1
/-- in and out by roots -/
theorem in_out {n K : Nat} {sg : Nat → Int} {R : Nat → Nat} (hK : n < 2 ^ K) (hs : Signs sg K) (hR : ∀ e, 2 ≤ e → e < K → IsRoot n e (R e)) :
    SI (fun e => if 2 ≤ e then sg e * ((R e - 1 : Nat) : Int) else 0) K = - ((S (fun m => I (2 ≤ m ∧ IsPow m)) (n + 1) : Nat) : Int) := by
  have h1 : ∀ e, e < K → (if 2 ≤ e then sg e * ((R e - 1 : Nat) : Int) else 0) = SI (fun g => (if 2 ≤ e ∧ e ∣ g then sg e else 0) * (if 1 ≤ g then (Nn n g : Int) else 0)) K := fun e he => by
    by_cases z : 2 ≤ e
    · rw [if_pos z, ← roots_split (by omega) (hR e z he) hK, S_cast, ← SI_mul]
      refine SI_congr fun g _ => ?_
      by_cases w : e ∣ g
      · by_cases u : 1 ≤ g
        · rw [if_pos ⟨u, w⟩, if_pos ⟨z, w⟩, if_pos u]
        · rw [if_neg fun x => u x.1, if_neg u, Int.mul_zero]; exact Int.mul_zero _
      · rw [if_neg fun x => w x.2, if_neg fun x => w x.2, Int.zero_mul]
        exact Int.mul_zero _
    · rw [if_neg z, SI_congr (g := fun _ => 0) fun g _ => by rw [if_neg fun x => z x.1, Int.zero_mul], SI_zero]
  rw [SI_congr h1, SI_swap, powers_split hK, S_cast, ← SI_neg]
  refine SI_congr fun g hg => ?_
  rw [SI_mulr]
  by_cases z : 2 ≤ g
  · rw [hs g z hg, if_pos (show 1 ≤ g by omega), if_pos z]
    omega
  · rw [if_neg z]
    by_cases u : 1 ≤ g
    · have g1 : g = 1 := by omega
      subst g1
      rw [SI_congr (g := fun _ => 0) fun e _ => if_neg fun x => ?_, SI_zero, Int.zero_mul]
      · rfl
      · have := Nat.le_of_dvd (by decide) x.2
        omega
    · rw [if_neg u, Int.mul_zero]
      rfl
end Pm

/-! Counts by greatest exponents, as the program makes them; the powers that are no squares. -/
namespace Pm
theorem S_head (f : Nat → Nat) : ∀ n : Nat, S f (n + 1) = f 0 + S (fun i => f (i + 1)) n
  | 0 => by show 0 + f 0 = f 0 + 0; omega
  | n + 1 => by
    show S f (n + 1) + f (n + 1) = f 0 + (S (fun i => f (i + 1)) n + f (n + 1))
    rw [S_head f n]
    omega
theorem S_mono {f g : Nat → Nat} : ∀ {n : Nat}, (∀ i, i < n → f i ≤ g i) → S f n ≤ S g n
  | 0, _ => Nat.le_refl _
  | n + 1, h => Nat.add_le_add (S_mono fun i hi => h i (Nat.lt_succ_of_lt hi)) (h n (Nat.lt_succ_self n))
theorem S_up (f : Nat → Nat) (n : Nat) : ∀ k : Nat, S f n ≤ S f (n + k)
  | 0 => Nat.le_refl _
  | k + 1 => Nat.le_trans (S_up f n k) (Nat.le_add_right _ _)
theorem S_le {f : Nat → Nat} {n m : Nat} (h : n ≤ m) : S f n ≤ S f m := by
  obtain ⟨k, rfl⟩ := Nat.exists_eq_add_of_le h
  exact S_up f n k
/-- a sum over the multiples of e -/
theorem S_mult (f : Nat → Nat) {e : Nat} (he : 1 ≤ e) : ∀ m : Nat, S (fun g => if 1 ≤ g ∧ e ∣ g then f g else 0) (m + 1) = S (fun j => f (e * (j + 1))) (m / e)
  | 0 => by
    rw [Nat.zero_div]
    rfl
  | m + 1 => by
    show S (fun g => if 1 ≤ g ∧ e ∣ g then f g else 0) (m + 1) + (if 1 ≤ m + 1 ∧ e ∣ m + 1 then f (m + 1) else 0) = _
    rw [S_mult f he m]
    by_cases h : e ∣ m + 1
    · obtain ⟨q, hq⟩ := h
      have q1 : 1 ≤ q := by
        rcases Nat.eq_zero_or_pos q with z | z
        · rw [z] at hq; omega
        · exact z
      obtain ⟨p, rfl⟩ : ∃ p, q = p + 1 := ⟨q - 1, by omega⟩
      have h1 : (m + 1) / e = p + 1 := by rw [hq, Nat.mul_div_cancel_left _ (by omega)]
      have h2 : m / e = p := by
        have e1 : m = e * p + (e - 1) := by rw [Nat.mul_succ] at hq; omega
        rw [e1, Nat.mul_add_div (by omega), Nat.div_eq_of_lt (by omega)]
        rfl
      rw [if_pos ⟨by omega, ⟨p + 1, hq⟩⟩, h1, h2, hq]
      rfl
    · rw [if_neg fun x => h x.2, Nat.add_zero]
      have : (m + 1) / e = m / e := by
        have h1 := Nat.div_add_mod m e
        have h2 := Nat.mod_lt m (show 0 < e by omega)
        have h3 : m % e + 1 ≠ e := fun z => h ⟨m / e + 1, by rw [Nat.mul_succ]; omega⟩
        have e1 : m + 1 = e * (m / e) + (m % e + 1) := by omega
        rw [e1, Nat.mul_add_div (by omega), Nat.div_eq_of_lt (show m % e + 1 < e by omega)]
        rfl
      rw [this]
theorem sum_range (f : Nat → Nat) : ∀ c : Nat, ((List.range c).map f).sum = S f c
  | 0 => rfl
  | c + 1 => by
    rw [List.range_succ, List.map_append, List.sum_append, sum_range f c]
    show S f c + (f c + 0) = S f c + f c
    omega
theorem S_from2 (f : Nat → Nat) : ∀ c : Nat, S (fun g => if 2 ≤ g then f g else 0) (c + 2) = S (fun j => f (2 + j)) c
  | 0 => rfl
  | c + 1 => by
    show S (fun g => if 2 ≤ g then f g else 0) (c + 2) + (if 2 ≤ c + 2 then f (c + 2) else 0) = S (fun j => f (2 + j)) c + f (2 + c)
    rw [S_from2 f c, if_pos (by omega), Nat.add_comm c 2]
/-- the greatest exponent that is counted -/
structure Mst (n M : Nat) : Prop where
  two : 2 ≤ M
  hi : n < 2 ^ (M + 1)
  lo : M = 2 ∨ 2 ^ M ≤ n
theorem Mst.uniq {n M M' : Nat} (h : Mst n M) (h' : Mst n M') : M = M' := by
  have key : ∀ {a b : Nat}, Mst n a → Mst n b → ¬ a < b := fun {a b} ha hb z => by
    rcases hb.lo with w | w
    · have := ha.two
      omega
    · have h1 := ha.hi
      have h2 : (2 : Nat) ^ (a + 1) ≤ 2 ^ b := Nat.pow_le_pow_right (by decide) z
      omega
  have h1 := key h h'
  have h2 := key h' h
  omega
/-- by greatest exponents 2, 3, .. M; 1 counts to 2 -/
noncomputable def cgl (n M : Nat) : List Nat := (List.range (M - 1)).map fun j => Nn n (2 + j) + if j = 0 then 1 else 0
/-- what the program takes off a root: the sums of greater multiples -/
theorem root_mult {n e r M : Nat} (he : 1 ≤ e) (hM : e ≤ M) (hr : IsRoot n e r) (hK : n < 2 ^ (M + 1)) : r - 1 = Nn n e + ((List.range (M / e - 1)).map fun j => Nn n (2 * e + j * e)).sum := by
  rw [← roots_split he hr hK, S_mult _ he, sum_range]
  have h1 : 1 ≤ M / e := (Nat.le_div_iff_mul_le (by omega)).mpr (by omega)
  rw [show M / e = M / e - 1 + 1 by omega, S_head, show M / e - 1 + 1 - 1 = M / e - 1 by omega, Nat.zero_add, Nat.mul_one]
  congr 1
  refine S_congr fun j _ => ?_
  rw [show e * (j + 1 + 1) = 2 * e + j * e by rw [Nat.mul_add, Nat.mul_add, Nat.mul_comm e j]; omega]
/-- the count of the powers to n -/
theorem cgl_sum {n M : Nat} (h : Mst n M) : (cgl n M).sum = 1 + S (fun m => I (2 ≤ m ∧ IsPow m)) (n + 1) := by
  unfold cgl
  rw [sum_range, S_add, powers_split h.hi]
  have e : M + 1 = (M - 1) + 2 := by have := h.two; omega
  rw [e, S_from2, S_one (n := M - 1) 0 1, if_pos (by have := h.two; omega)]
  omega
/-- the length of a list without repetition: marks -/
theorem len_marks : ∀ {l : List Nat} {N : Nat}, l.Nodup → (∀ x ∈ l, x < N) → S (fun m => I (m ∈ l)) N = l.length
  | [], N, _, _ => by
    rw [S_congr (g := fun _ => 0) fun i _ => I_f (by simp), S_zero]
    rfl
  | a :: l, N, hn, hb => by
    have hn' := List.nodup_cons.mp hn
    have e : ∀ m, m < N → I (m ∈ a :: l) = (if m = a then 1 else 0) + I (m ∈ l) := fun m _ => by
      by_cases z : m = a
      · subst z
        rw [I_t (List.mem_cons_self ..), if_pos rfl, I_f hn'.1]
      · rw [if_neg z, Nat.zero_add]
        refine I_congr ⟨fun h => ?_, fun h => List.mem_cons_of_mem _ h⟩
        rcases List.mem_cons.mp h with w | w
        · exact absurd w z
        · exact w
    rw [S_congr e, S_add, S_one, if_pos (hb a (List.mem_cons_self ..)), len_marks hn'.2 fun x hx => hb x (List.mem_cons_of_mem _ hx), List.length_cons]
    omega
/-! ### the powers that are no squares -/
theorem Nn_mono {n m g : Nat} (h : n ≤ m) : Nn n g ≤ Nn m g := by
  unfold Nn
  refine Nat.le_trans (S_mono (g := fun c => I (Q c ∧ c ^ g ≤ m)) fun c _ => ?_) (S_le (by omega))
  by_cases z : Q c ∧ c ^ g ≤ n
  · rw [I_t z, I_t ⟨z.1, Nat.le_trans z.2 h⟩]
    exact Nat.le_refl _
  · rw [I_f z]
    exact Nat.zero_le _
theorem Nn_le_of {n m g h : Nat} (hg : 1 ≤ g) (hh : 1 ≤ h) (H : ∀ c, 2 ≤ c → c ^ g ≤ n → c ^ h ≤ m) : Nn n g ≤ Nn m h := by
  unfold Nn
  have e : S (fun c => I (Q c ∧ c ^ g ≤ n)) (n + 1) ≤ S (fun c => I (Q c ∧ c ^ h ≤ m)) (n + 1) := S_mono fun c _ => by
    by_cases z : Q c ∧ c ^ g ≤ n
    · rw [I_t z, I_t ⟨z.1, H c z.1.1 z.2⟩]
      exact Nat.le_refl _
    · rw [I_f z]
      exact Nat.zero_le _
  refine Nat.le_trans e ?_
  rcases Nat.le_total n m with z | z
  · exact S_le (by omega)
  · obtain ⟨k, hk⟩ := Nat.exists_eq_add_of_le z
    have out : ∀ k, S (fun c => I (Q c ∧ c ^ h ≤ m)) (m + 1 + k) = S (fun c => I (Q c ∧ c ^ h ≤ m)) (m + 1) := fun k => by
      induction k with
      | zero => rfl
      | succ k ih =>
        show S (fun c => I (Q c ∧ c ^ h ≤ m)) (m + 1 + k) + I (Q (m + 1 + k) ∧ (m + 1 + k) ^ h ≤ m) = _
        rw [ih, I_f, Nat.add_zero]
        rintro ⟨_, w⟩
        have := Nat.le_self_pow (n := h) (by omega) (m + 1 + k)
        omega
    rw [hk, show m + k + 1 = m + 1 + k by omega, out]
    exact Nat.le_refl _
/-- how many powers to m * m are no squares, counted to the exponent 2 K -/
noncomputable def Od (m K : Nat) : Nat := S (fun h => Nn (m * m) (2 * h + 3)) K
theorem Od_mono {m m' K : Nat} (h : m ≤ m') : Od m K ≤ Od m' K := S_mono fun _ _ => Nn_mono (Nat.mul_le_mul h h)
theorem Od_le {m K : Nat} (hm : 1 ≤ m) (hK : m < 2 ^ K) : Od m K ≤ m - 1 := by
  unfold Od
  rcases Nat.lt_or_ge m 2 with z | z
  · have : m = 1 := by omega
    subst this
    rw [S_congr (g := fun _ => 0) fun h _ => Nn_zero (K := 1) (by decide) (by omega), S_zero]
    exact Nat.zero_le _
  · have h1 : S (fun h => Nn (m * m) (2 * h + 3)) K ≤ S (fun h => Nn (m - 1) (h + 1)) K := S_mono fun h _ => Nn_le_of (by omega) (by omega) fun c c2 hc => by
      refine Nat.le_of_not_lt fun w => ?_
      have h2 : m ≤ c ^ (h + 1) := by omega
      have h3 := Nat.mul_le_mul h2 h2
      have h4 : c ^ (2 * h + 3) = c ^ (h + 1) * c ^ (h + 1) * c := by
        rw [← Nat.pow_add, ← Nat.pow_succ]
        congr 1
        omega
      have h5 : c ^ (h + 1) * c ^ (h + 1) * 2 ≤ c ^ (h + 1) * c ^ (h + 1) * c := Nat.mul_le_mul_left _ c2
      have h6 : 0 < m * m := Nat.mul_pos (by omega) (by omega)
      omega
    refine Nat.le_trans h1 ?_
    have h2 := roots_split (n := m - 1) (e := 1) (r := m - 1) (K := K + 1) (by decide) ⟨by rw [Nat.pow_one]; exact Nat.le_refl _, by rw [Nat.pow_one]; omega⟩ (by rw [Nat.pow_succ]; omega)
    rw [S_head] at h2
    have h3 : S (fun h => Nn (m - 1) (h + 1)) K = S (fun i => if 1 ≤ i + 1 ∧ 1 ∣ i + 1 then Nn (m - 1) (i + 1) else 0) K := S_congr fun i _ => by rw [if_pos ⟨by omega, Nat.one_dvd _⟩]
    rw [h3]
    omega
theorem S_even_odd (f : Nat → Nat) : ∀ K : Nat, S (fun g => if 2 ≤ g then f g else 0) (2 * K + 3) = S (fun g => if 1 ≤ g ∧ 2 ∣ g then f g else 0) (2 * K + 3) + S (fun h => f (2 * h + 3)) K
  | 0 => by
    show 0 + (if 2 ≤ 0 then f 0 else 0) + (if 2 ≤ 1 then f 1 else 0) + (if 2 ≤ 2 then f 2 else 0) = 0 + (if 1 ≤ 0 ∧ 2 ∣ 0 then f 0 else 0) + (if 1 ≤ 1 ∧ 2 ∣ 1 then f 1 else 0) + (if 1 ≤ 2 ∧ 2 ∣ 2 then f 2 else 0) + 0
    rw [if_neg (by omega), if_neg (by omega), if_pos (by omega), if_neg (by omega), if_neg (by omega), if_pos (by omega)]
    omega
  | K + 1 => by
    show S (fun g => if 2 ≤ g then f g else 0) (2 * K + 3) + (if 2 ≤ 2 * K + 3 then f (2 * K + 3) else 0) + (if 2 ≤ 2 * K + 4 then f (2 * K + 4) else 0)
      = S (fun g => if 1 ≤ g ∧ 2 ∣ g then f g else 0) (2 * K + 3) + (if 1 ≤ 2 * K + 3 ∧ 2 ∣ 2 * K + 3 then f (2 * K + 3) else 0) + (if 1 ≤ 2 * K + 4 ∧ 2 ∣ 2 * K + 4 then f (2 * K + 4) else 0) + (S (fun h => f (2 * h + 3)) K + f (2 * K + 3))
    rw [S_even_odd f K, if_pos (by omega), if_pos (by omega), if_neg (by omega), if_pos (by omega)]
    omega
/-- all powers to a square: its root, and those that are no squares -/
theorem cnt_sq {m K : Nat} (hm : 1 ≤ m) (hK : m < 2 ^ K) : 1 + S (fun v => I (2 ≤ v ∧ IsPow v)) (m * m + 1) = m + Od m K := by
  have hb : m * m < 2 ^ (2 * K + 3) := by
    refine Nat.lt_of_lt_of_le (Nat.mul_lt_mul_of_lt_of_lt hK hK) ?_
    rw [← Nat.pow_add]
    exact Nat.pow_le_pow_right (by decide) (by omega)
  rw [powers_split hb, S_even_odd, roots_split (e := 2) (r := m) (by decide) ⟨by rw [Nat.pow_two]; exact Nat.le_refl _, by rw [Nat.pow_two]; exact Nat.mul_lt_mul_of_lt_of_lt (Nat.lt_succ_self m) (Nat.lt_succ_self m)⟩ hb]
  unfold Od
  omega
end Pm

namespace Pw
open PySem PySem.Spec PyProof.Rows L2

/-! ### a def of the top that stands, and its promise -/
structure Def (P : Program) (w : World) (K : PySem.W.Frag) (mg : Str → Option Value) (base : Heap) (k : Nat) (x : Str) (ps : List Str) (sp : Sp) : Prop where
  ex : ∃ (f : Addr) (fd : FuncData), FnOk P w K mg base CX0 k f fd ps sp ∧ mg x = some (.ref f) ∧ PySem.W.keepIn K (.ref f) = true ∧ Binds K fd ps []
structure Pl (K : PySem.W.Frag) (mg : Str → Option Value) (x : Str) (st : Stmt) (ps : List Str) : Prop where
  ex : ∃ (f : Addr) (fd : FuncData), Fun K x x st f fd ∧ mg x = some (.ref f) ∧ Binds K fd ps []
section
variable {P : Program} {w : World} {K : PySem.W.Frag} {mg : Str → Option Value} {base : Heap}
theorem Pl.ok {x : Str} {st : Stmt} {N ps : List Str} {k : Nat} {sp : Sp} (F : Pl K mg x st ps) (S : FnScope N ps (defScope st)) (len : ∀ vs H Q E, sp vs H Q E → vs.length = ps.length)
    (hbody : ∀ (f : Addr) (cdv : Value) (A : Around) (outer : List Env) (s : Shared) (H : Hp) (vs : List V) (Q : VK) (E : XK), Room k (A.deeper (envOfC x (defScope st) s.heap.objs.size f cdv)) → sp vs H Q E →
      ∃ t, PSs (cxOf CX0 P w K mg base N x (defScope st) f cdv A outer s H E).nox (defBody st) t ∧ t { nx := fun _ H' => Q .non H', rt := Q } (start N vs) H) : Def P w K mg base (k + 1) x ps sp := by
  obtain ⟨f, fd, F, m, b⟩ := F.ex
  exact ⟨f, fd, F.ok S len (hbody f), m, F.kp, b⟩
end
section
variable {X : Cx} {k j : Nat} {x : Str} {ps : List Str} {sp : Sp}
theorem pe_def {e : Expr} {es : List Expr} {t : TA} {p pos : Pos} (D : Def X.prog X.w X.K X.mg X.base k x ps sp) (hr : Room k X.A) (hg : Gl X x) (ha : PA X (e :: es) t) (hdb : (x == ("__debug__" : Str)) = false := by decide)
    (he : starEach (e :: es) X.env = (false, eval e X.env) :: starEach es X.env := by rfl) (hpl : (backTo pos (starEach es X.env)).any (·.1) = false := by rfl) : PE X (.Call (.Name x p) (e :: es) [] pos) (tCall sp [] E0 t) := by
  obtain ⟨f, fd, F, m, kp, b⟩ := D.ex
  exact pe_call F hr hg m kp b .nil pass0 ha hdb he hpl
end
end Pw

namespace Pw
open PySem PySem.Spec PyProof.Rows L2
section
variable {X : Cx} {k j : Nat} {x : Str} {ps : List Str} {sp : Sp}
theorem pe_df {e : Expr} {es : List Expr} {t : TA} {p pos : Pos} (D : Def X.prog X.w X.K X.mg X.base k x ps sp) (hr : Room j X.A) (hg : Gl X x) (ha : PA X (e :: es) t) (hk : k ≤ j := by decide) (hdb : (x == ("__debug__" : Str)) = false := by decide)
    (he : starEach (e :: es) X.env = (false, eval e X.env) :: starEach es X.env := by rfl) (hpl : (backTo pos (starEach es X.env)).any (·.1) = false := by rfl) : PE X (.Call (.Name x p) (e :: es) [] pos) (tCall sp [] E0 t) :=
  pe_def D (hr.mono hk) hg ha hdb he hpl
end
/-! ### rules by name -/
def rOdd : R2 := fun x y H Q => ∃ n : Nat, x = .int (n : Int) ∧ y = .int 1 ∧ Q (.int ((n % 2 : Nat) : Int)) H
theorem op_oddN {X : Cx} : OpR X (binaryOp .BitAnd) rOdd := op_odd
def rLenS (K : PySem.W.Frag) : List V → Hp → VK → Prop := fun xs H Q => ∃ p ys, xs = [.ref p] ∧ (SqL K H p ys ∨ SqT K H p ys) ∧ Q (.int ys.length) H
theorem cr_lenS {X : Cx} : CallR X (.builtin "len") (rLenS X.K) := call_len_seq
def rLenT : List V → Hp → VK → Prop := fun xs H Q => ∃ z, xs = [.str z] ∧ z.length ≤ sizeLine ∧ Q (.int z.length) H
theorem cr_lenT {X : Cx} : CallR X (.builtin "len") rLenT := call_len_str
def rMin2 : List V → Hp → VK → Prop := fun xs H Q => ∃ i j : Int, xs = [.int i, .int j] ∧ Q (.int (if j < i then j else i)) H
def rMax2 : List V → Hp → VK → Prop := fun xs H Q => ∃ i j : Int, xs = [.int i, .int j] ∧ Q (.int (if j > i then j else i)) H
theorem cr_min2 {X : Cx} (hc : X.calm = true) : CallR X (.builtin "min") rMin2 := call_min2 hc
theorem cr_max2 {X : Cx} (hc : X.calm = true) : CallR X (.builtin "max") rMax2 := call_max2 hc
def tTruth (K : PySem.W.Frag) (ta : TE) : TT := fun σ H Q => ta σ H fun x H' => ∃ k, TruV K x H' k ∧ Q k H'
theorem pt_tru {X : Cx} {K : PySem.W.Frag} {a : Expr} {ta : TE} (ha : PE X a ta) (he : ∀ whole, isTrue a X.env whole = (do let v ← whole; standAt a.pos; holding [v] (truthy v))) (hK : X.K = K := by rfl) : PT X a (tTruth K ta) := by
  subst hK
  exact pt_truth ha he

/-! ### isqrt -/
def rIsqrt : List V → Hp → VK → Prop := fun vs H Q => ∃ n : Nat, vs = [.int (n : Int)] ∧ n < 2 ^ 13000 ∧ (∀ r : Nat, r * r ≤ n → n < (r + 1) * (r + 1) → Q (.int (r : Int)) H)
theorem cr_isqrt {X : Cx} : CallR X (.builtin "math.isqrt") rIsqrt := by
  intro pins s σ H vs us Q I r h
  obtain ⟨n, rfl, hn, q⟩ := h
  have hv : ∃ t, us = [Value.int (n : Int) t] := by
    cases r with
    | cons r1 r2 =>
      cases r2
      obtain ⟨t, rfl⟩ := r1
      exact ⟨t, rfl⟩
  obtain ⟨t, rfl⟩ := hv
  have hl : (n : Int).toNat.log2 < 13000 := by
    rw [Int.toNat_natCast]
    exact PySem.Flt.log2_lt_of (by decide) hn
  have sp := PySem.Float64.isqrt_spec n
  have sp' := q _ sp.1 sp.2
  have e : (Float64.isqrt ((n : Int)).toNat : Nat) = Float64.isqrt n := by rw [Int.toNat_natCast]
  refine call_function_meets PySem.W.MGF.kind_isqrt PySem.W.MGF.plain_isqrt PySem.W.MGF.entry_isqrt (PySem.W.MGF.args_isqrt _) (PySem.W.mg_run_isqrt (n : Int) t (by omega) (by omega) (by omega)).meets ?_
  refine ⟨.int ((Float64.isqrt (n : Int).toNat : Nat) : Int), H, I.tok _, ⟨_, rfl⟩, ?_⟩
  rw [e]
  exact sp'

/-- a new tuple, list; a new list whose size is known -/
def NewT (Q : VK) (xs : List V) (H : Hp) : Prop := xs.length ≤ sizeLine ∧ ∀ p, H p = none → Q (.ref p) (upd H p (.tup xs))
def NewL (Q : VK) (xs : List V) (H : Hp) : Prop := xs.length ≤ sizeLine ∧ ∀ p, H p = none → Q (.ref p) (upd H p (.lst xs))
def NewC (Q : VK) (xs : List V) (H : Hp) : Prop := ∀ p, H p = none → Q (.ref p) (upd H p (.lst xs))
theorem same_new {H : Hp} {p : Addr} {o : HO} (h : H p = none) : Same H (upd H p o) := fun b x e => by rw [upd_ne (ne_of_none e h)]; exact e
theorem newT {Q : VK} {xs : List V} {H : Hp} (hl : xs.length ≤ 1000) (q : ∀ p H', H p = none → H' p = some (.tup xs) → Same H H' → Q (.ref p) H') : NewT Q xs H := ⟨Nat.le_of_lt (small1000 hl), fun p hp => q p _ hp upd_same (same_new hp)⟩
theorem newL {Q : VK} {xs : List V} {H : Hp} (hl : xs.length ≤ 1000) (q : ∀ p H', H p = none → H' p = some (.lst xs) → Same H H' → Q (.ref p) H') : NewL Q xs H := ⟨Nat.le_of_lt (small1000 hl), fun p hp => q p _ hp upd_same (same_new hp)⟩
theorem newC {Q : VK} {xs : List V} {H : Hp} (q : ∀ p H', H p = none → H' p = some (.lst xs) → Same H H' → Q (.ref p) H') : NewC Q xs H := fun p hp => q p _ hp upd_same (same_new hp)
/-! ### the reading, step by step -/
section
variable {K : PySem.W.Frag} {σ : L2.St} {H : Hp} {Q : VK} {QT : Bool → Hp → Prop} {QA : List V → Hp → Prop} {D : Ends} {t u : TS} {tt tu : TT} {ta tb te tc : TE} {tr : TA} {i j : Int} {v x y : V} {n m : Nat}
theorem r_seq (h : t { D with nx := u D } σ H) : tSeq t u D σ H := h
theorem r_next (h : D.nx σ H) : tNext D σ H := h
theorem r_cont (h : D.ct σ H) : tCont D σ H := h
theorem r_break (h : D.bk σ H) : tBreak D σ H := h
theorem r_set (h : te σ H fun x H1 => D.nx (σ.set n (some x)) H1) : tAsg te (gName n) D σ H := h
theorem r_asg {g : TG} (h : te σ H fun x H1 => g x σ H1 D.nx) : tAsg te g D σ H := h
theorem r_ret (h : te σ H D.rt) : tRet te D σ H := h
theorem r_retN (h : D.rt .non H) : tRetN D σ H := h
theorem r_drop (h : te σ H fun _ H1 => D.nx σ H1) : tDrop te D σ H := h
theorem r_if (h : tt σ H fun b H1 => if b = true then t D σ H1 else u D σ H1) : tIfS tt t u D σ H := h
theorem r_var (h : σ[n]? = some (some v)) (q : Q v H) : tVar n σ H Q := ⟨v, h, q⟩
theorem r_c (q : Q v H) : tC v σ H Q := q
theorem r_op {r : R2} (h : ta σ H fun x H1 => tb σ H1 fun y H2 => r x y H2 Q) : tOp r ta tb σ H Q := h
theorem r_un {r : V → Hp → VK → Prop} (h : ta σ H fun x H1 => r x H1 Q) : tUn r ta σ H Q := h
theorem r_I0 {g : Int → Int → V} (q : Q (g i j) H) : rI0 g (.int i) (.int j) H Q := ⟨i, j, rfl, rfl, q⟩
theorem r_I {C : Int → Int → Prop} {g : Int → Int → V} (c : C i j) (q : Q (g i j) H) : rI C g (.int i) (.int j) H Q := ⟨i, j, rfl, rfl, c, q⟩
theorem r_U {g : Int → V} (q : Q (g i) H) : rU g (.int i) H Q := ⟨i, rfl, q⟩
theorem r_eqI (q : Q (.bl (decide (V.int i = V.int j))) H) : rEq (.int i) (.int j) H Q := ⟨rfl, q⟩
theorem r_neI (q : Q (.bl (!decide (V.int i = V.int j))) H) : rNe (.int i) (.int j) H Q := ⟨rfl, q⟩
theorem r_eqS (h : scal x y = true) (q : Q (.bl (decide (x = y))) H) : rEq x y H Q := ⟨h, q⟩
theorem r_neS (h : scal x y = true) (q : Q (.bl (!decide (x = y))) H) : rNe x y H Q := ⟨h, q⟩
theorem r_odd (h : i = (n : Int)) (q : Q (.int ((n % 2 : Nat) : Int)) H) : rOdd (.int i) (.int 1) H Q := ⟨n, by rw [h], rfl, q⟩
theorem r_test (h : te σ H fun x H' => ∃ k, x = .bl k ∧ QT k H') : tTest te σ H QT := h
theorem r_B (h : te σ H fun x H' => ∃ k, x = .bl k ∧ QT k H') : tB te σ H QT := h
theorem r_exI {R : Int → Prop} (h : R i) : ∃ z, V.int i = .int z ∧ R z := ⟨i, rfl, h⟩
theorem r_exB {R : Bool → Prop} {b : Bool} (h : R b) : ∃ z, V.bl b = .bl z ∧ R z := ⟨b, rfl, h⟩
theorem r_truth (h : te σ H fun x H' => ∃ k, TruV K x H' k ∧ QT k H') : tTruth K te σ H QT := h
theorem r_truI {R : Bool → Prop} (h : R (i != 0)) : ∃ k, TruV K (.int i) H k ∧ R k := ⟨_, rfl, h⟩
theorem r_truB {R : Bool → Prop} {b : Bool} (h : R b) : ∃ k, TruV K (.bl b) H k ∧ R k := ⟨_, rfl, h⟩
theorem r_and (h : tt σ H fun c H1 => if c = true then tu σ H1 QT else QT false H1) : tAnd tt tu σ H QT := h
theorem r_or (h : tt σ H fun c H1 => if c = true then QT true H1 else tu σ H1 QT) : tOr tt tu σ H QT := h
theorem r_not (h : tt σ H fun c H1 => QT (!c) H1) : tNot tt σ H QT := h
theorem r_andV (h : ta σ H fun x H1 => ∃ c, x = .bl c ∧ if c = true then tb σ H1 Q else Q (.bl false) H1) : tAndV ta tb σ H Q := h
theorem r_orV (h : ta σ H fun x H1 => ∃ c, x = .bl c ∧ if c = true then Q (.bl true) H1 else tb σ H1 Q) : tOrV ta tb σ H Q := h
theorem r_notV (h : ta σ H fun x H1 => ∃ c, x = .bl c ∧ Q (.bl (!c)) H1) : tNotV ta σ H Q := h
theorem r_ifE (h : tt σ H fun c H1 => if c = true then ta σ H1 Q else tb σ H1 Q) : tIf tt ta tb σ H Q := h
theorem r_nil (q : QA [] H) : tNil σ H QA := q
theorem r_cons (h : ta σ H fun x H1 => tr σ H1 fun xs H2 => QA (x :: xs) H2) : tCons ta tr σ H QA := h
theorem r_CB {r : List V → Hp → VK → Prop} (h : tr σ H fun vs H1 => r vs H1 Q) : tCB r tr σ H Q := h
theorem r_call {sp : Sp} {E : XK} (h : tr σ H fun vs H1 => sp vs H1 Q E) : tCall sp [] E tr σ H Q := by
  have e : (fun vs H1 => sp (vs ++ []) H1 Q E) = fun vs H1 => sp vs H1 Q E := by
    funext vs H1
    rw [List.append_nil]
  show tr σ H fun vs H1 => sp (vs ++ []) H1 Q E
  rw [e]
  exact h
theorem r_tup (h : tr σ H fun xs H1 => NewT Q xs H1) : tTup tr σ H Q := h
theorem r_lst (h : tr σ H fun xs H1 => NewL Q xs H1) : tLst tr σ H Q := h
theorem r_min2 (q : Q (.int (if j < i then j else i)) H) : rMin2 [.int i, .int j] H Q := ⟨i, j, rfl, q⟩
theorem r_max2 (q : Q (.int (if j > i then j else i)) H) : rMax2 [.int i, .int j] H Q := ⟨i, j, rfl, q⟩
theorem r_isqrt {a : Nat} (h : a < 2 ^ 13000) (q : ∀ r : Nat, r * r ≤ a → a < (r + 1) * (r + 1) → Q (.int (r : Int)) H) : rIsqrt [.int (a : Int)] H Q := ⟨a, rfl, h, q⟩
theorem r_bits (h : te σ H fun x H1 => ∃ z, x = .int z ∧ Q (.int (Builtin.Int.intBits z : Nat)) H1) : tBits te σ H Q := h
theorem r_ixL {p : Addr} {xs : List V} (h : SqL K H p xs) (ha : atI xs i = some v) (q : Q v H) : rIxL K (.ref p) (.int i) H Q := ⟨p, xs, i, v, rfl, rfl, h, ha, q⟩
theorem r_ixT {p : Addr} {xs : List V} (h : SqT K H p xs) (ha : atI xs i = some v) (q : Q v H) : rIxT K (.ref p) (.int i) H Q := ⟨p, xs, i, v, rfl, rfl, h, ha, q⟩
theorem r_lenL {p : Addr} {xs : List V} (h : SqL K H p xs) (q : Q (.int xs.length) H) : rLenS K [.ref p] H Q := ⟨p, xs, rfl, .inl h, q⟩
theorem r_lenT {p : Addr} {xs : List V} (h : SqT K H p xs) (q : Q (.int xs.length) H) : rLenS K [.ref p] H Q := ⟨p, xs, rfl, .inr h, q⟩
theorem r_lenS {z : Str} (h : z.length ≤ sizeLine) (q : Q (.int z.length) H) : rLenT [.str z] H Q := ⟨z, rfl, h, q⟩
theorem r_sl {r : V → Option Int → Option Int → Hp → VK → Prop} {tl th : TO} (h : te σ H fun x H1 => tl σ H1 fun l H2 => th σ H2 fun u H3 => r x l u H3 Q) : tSl r te tl th σ H Q := h
theorem r_noPart {QO : Option Int → Hp → Prop} (q : QO none H) : tNoPart σ H QO := q
theorem r_part {QO : Option Int → Hp → Prop} (h : te σ H fun x H1 => ∃ z, x = .int z ∧ QO (some z) H1) : tPart te σ H QO := h
theorem r_slL {p : Addr} {xs : List V} {lo hi : Option Int} (h : SqL K H p xs) (q : NewC Q (cutV xs lo hi) H) : rSlL K (.ref p) lo hi H Q := ⟨p, xs, rfl, h, q⟩
theorem r_gName {R : L2.St → Hp → Prop} (q : R (σ.set n (some v)) H) : gName n v σ H R := q
theorem r_gSub {R : L2.St → Hp → Prop} {s : TSet} (h : ta σ H fun o H1 => tb σ H1 fun i H2 => s o i v H2 fun H3 => R σ H3) : gSub ta tb s v σ H R := h
theorem r_setL {p : Addr} {xs : List V} {jx : Nat} {R : Hp → Prop} (h : H p = some (.lst xs)) (hj : ixN xs.length i = some jx) (q : R (upd H p (.lst (xs.set jx v)))) : rSetL (.ref p) (.int i) v H R := ⟨p, xs, i, jx, rfl, rfl, h, hj, q⟩
theorem r_ite {c A B : Prop} [Decidable c] (h1 : c → A) (h2 : ¬ c → B) : if decide c = true then A else B := by
  by_cases h : c
  · rw [if_pos (decide_eq_true h)]
    exact h1 h
  · rw [if_neg (by rw [decide_eq_false h]; decide)]
    exact h2 h
theorem iteNT {A B : Prop} (h : B) : if (!true) = true then A else B := h
theorem iteNF {A B : Prop} (h : A) : if (!false) = true then A else B := h
theorem r_iteI {A B : Prop} (h1 : i = j → A) (h2 : i ≠ j → B) : if decide (V.int i = V.int j) = true then A else B := r_ite (fun e => h1 (V.int.inj e)) (fun e => h2 fun z => e (by rw [z]))
theorem r_iteNI {A B : Prop} (h1 : i ≠ j → A) (h2 : i = j → B) : if (!decide (V.int i = V.int j)) = true then A else B := by
  by_cases h : i = j
  · rw [h, decide_eq_true rfl]
    exact h2 h
  · rw [decide_eq_false fun e => h (V.int.inj e)]
    exact h1 h
theorem r_iteN {c A B : Prop} [Decidable c] (h1 : ¬ c → A) (h2 : c → B) : if (!decide c) = true then A else B := by
  by_cases h : c
  · rw [decide_eq_true h]
    exact h2 h
  · rw [decide_eq_false h]
    exact h1 h
theorem r_bne {A B : Prop} (h1 : i ≠ 0 → A) (h2 : i = 0 → B) : if (i != 0) = true then A else B := by
  by_cases h : i = 0
  · subst h
    exact h2 rfl
  · rw [if_pos (by simp [h])]
    exact h1 h
theorem r_for {wi : TI} {g : TG} {tb : TS} (h : wi σ H fun J H1 => ∃ W : Nat → Nat → L2.St → Hp → Prop, (∃ m, W 0 m σ H1) ∧ ∀ i m σ H, W i m σ H →
  (J.stop i H ∧ D.nx σ H) ∨ (J.go i H ∧ ∃ N : L2.St → Hp → Prop, (∀ σ' H', N σ' H' → ∃ m', m' < m ∧ W (i + 1) m' σ' H') ∧ ∀ x H', J.yld i H x H' → g x σ H' fun σ2 H2 => tb { D with nx := N, ct := N, bk := D.nx } σ2 H2)) : tFor wi g tb D σ H := h
theorem r_rng1 {R : It → Hp → Prop} (h : tr σ H fun vs H1 => ∃ j : Int, vs = [.int j] ∧ -(2 ^ 62) ≤ j ∧ j < 2 ^ 62 ∧ R (Itr 0 j.toNat) H1) : iRng1 tr σ H R := h
theorem r_ex1 {R : Int → Prop} (h : R i) : ∃ z, [V.int i] = [.int z] ∧ R z := ⟨i, rfl, h⟩
theorem r_iList {R : It → Hp → Prop} (h : te σ H fun x H1 => ∃ a, x = .ref a ∧ (∃ xs, SqL K H1 a xs) ∧ R (Itl K a) H1) : iList K te σ H R := h
theorem r_iTup {R : It → Hp → Prop} (h : te σ H fun x H1 => ∃ a, x = .ref a ∧ (∃ xs, SqT K H1 a xs) ∧ R (Itt K a) H1) : iTup K te σ H R := h
theorem r_exL {p : Addr} {xs : List V} {R : Addr → Prop} (h : SqL K H p xs) (q : R p) : ∃ a, V.ref p = .ref a ∧ (∃ xs, SqL K H a xs) ∧ R a := ⟨p, rfl, ⟨xs, h⟩, q⟩
theorem r_exT {p : Addr} {xs : List V} {R : Addr → Prop} (h : SqT K H p xs) (q : R p) : ∃ a, V.ref p = .ref a ∧ (∃ xs, SqT K H a xs) ∧ R a := ⟨p, rfl, ⟨xs, h⟩, q⟩
theorem r_revR {tg : L2.St → Hp → (Int → Int → Hp → Prop) → Prop} {R : It → Hp → Prop} (h : tg σ H fun a b H1 => -(2 ^ 62) ≤ a ∧ a < 2 ^ 62 ∧ -(2 ^ 62) ≤ b ∧ b < 2 ^ 62 ∧ R (Itc (a + (((b - a).toNat : Nat) : Int) - 1) (-1) (b - a).toNat) H1) : iRevR tg σ H R := h
theorem r_tRg1 {R : Int → Int → Hp → Prop} (h : te σ H fun x H1 => ∃ z, x = .int z ∧ R 0 z H1) : tRg1 te σ H R := h
theorem r_BM {T : String} {r : V → List V → Hp → VK → Prop} (h : te σ H fun x H1 => tyV K T x H1 ∧ tr σ H1 fun xs H2 => r x xs H2 Q) : tBM K T r te tr σ H Q := h
theorem r_append {p : Addr} {xs : List V} (h : H p = some (.lst xs)) (hl : xs.length < sizeLine) (q : Q .non (upd H p (.lst (xs ++ [v])))) : rAppend (.ref p) [v] H Q := ⟨p, xs, v, rfl, rfl, h, hl, q⟩
/-- while, by a word and a measure; the test read along -/
theorem r_while (W : L2.St → Hp → Prop) (μ : L2.St → Hp → Nat) (h0 : W σ H)
    (hs : ∀ σ H, W σ H → ∀ (N : L2.St → Hp → Prop), (∀ σ' H', W σ' H' → μ σ' H' < μ σ H → N σ' H') → tt σ H fun b H1 => if b = true then t { D with nx := N, ct := N, bk := D.nx } σ H1 else D.nx σ H1)
    (mono : ∀ σ H R R', (∀ b H1, R b H1 → R' b H1) → tt σ H R → tt σ H R') : tWhile tt t D σ H := by
  refine while_by W μ h0 (fun σ H w => ?_) mono
  exact hs σ H w (fun σ' H' => W σ' H' ∧ μ σ' H' < μ σ H) fun σ' H' a b => ⟨a, b⟩
end
end Pw

namespace Pw
open PySem PySem.Spec PyProof.Rows L2
/-- the built-in names that the text leaves alone -/
structure Bl (mg : Str → Option Value) : Prop where
  len : mg "len" = none
  range : mg "range" = none
  sum : mg "sum" = none
  min : mg "min" = none
  max : mg "max" = none
  reversed : mg "reversed" = none
  isinstance : mg "isinstance" = none
  int : mg "int" = none
  bool : mg "bool" = none
  tuple : mg "tuple" = none
  list : mg "list" = none
  str : mg "str" = none
  sorted : mg "sorted" = none
  divmod : mg "divmod" = none
  enumerate : mg "enumerate" = none
  abs : mg "abs" = none
  zip : mg "zip" = none
  set : mg "set" = none
  dict : mg "dict" = none
/-! ### heaps -/
/-- all but the deck's row stays -/
def Keep (d : Addr) (H H' : Hp) : Prop := ∀ b o, b ≠ d → H b = some o → H' b = some o
theorem Keep.refl {d : Addr} {H : Hp} : Keep d H H := fun _ _ _ h => h
theorem Keep.trans {d : Addr} {H H1 H2 : Hp} (a : Keep d H H1) (b : Keep d H1 H2) : Keep d H H2 := fun c o n h => b c o n (a c o n h)
theorem Keep.upd {d : Addr} {H : Hp} {o : HO} : Keep d H (upd H d o) := fun b _ n h => by rw [upd_ne n]; exact h
theorem Keep.new {d p : Addr} {H : Hp} {o : HO} (hp : H p = none) : Keep d H (L2.upd H p o) := fun b _ _ h => by rw [upd_ne (ne_of_none h hp)]; exact h
theorem Keep.of {d : Addr} {H H' : Hp} (s : Same H H') : Keep d H H' := fun b o _ h => s b o h
/-- a deck: its cells, how many are begun, what is left of one, how many were mixed, the sum -/
structure DeckAt (H : Hp) (d c : Addr) (n : Nat) : Prop where
  ex : ∃ (cells : List Int) (b l m t : Int), H d = some (.lst [.ref c, .int b, .int l, .int m, .int t]) ∧ H c = some (.lst (cells.map V.int)) ∧ c ≠ d ∧
    0 ≤ b ∧ b ≤ cells.length ∧ cells.length ≤ 63 ∧ 0 ≤ l ∧ 0 ≤ m ∧ m ≤ n
theorem DeckAt.mono {H : Hp} {d c : Addr} {n n' : Nat} (D : DeckAt H d c n) (h : n ≤ n') : DeckAt H d c n' := by
  obtain ⟨cells, b, l, m, t, h1, h2, h3, h4, h5, h6, h7, h8, h9⟩ := D.ex
  exact ⟨cells, b, l, m, t, h1, h2, h3, h4, h5, h6, h7, h8, by omega⟩
theorem DeckAt.same {H H' : Hp} {d c : Addr} {n : Nat} (D : DeckAt H d c n) (s : Same H H') : DeckAt H' d c n := by
  obtain ⟨cells, b, l, m, t, h1, h2, h3⟩ := D.ex
  exact ⟨cells, b, l, m, t, s _ _ h1, s _ _ h2, h3⟩
theorem natAbs_lt {i : Int} {n : Nat} (h0 : 0 ≤ i) (h : i < (n : Int)) : i.natAbs < n := by omega
theorem mulx_of {i j : Int} (a b : Nat) (ha : i.natAbs < 2 ^ a) (hb : j.natAbs < 2 ^ b) (h : a + b ≤ 134217728) : CMulX i j := mulx_ok ha hb h
/-! ### promises of the law's own helpers -/
def spMix : Sp := fun vs H Q _ => ∃ cell k : Int, vs = [.int cell, .int k] ∧ 0 ≤ k ∧ k ≤ 2 ^ 60 ∧ ∀ r : Int, 0 ≤ r → Q (.int r) H
def spNext : Sp := fun vs H Q _ => ∃ (d c : Addr) (many : Int) (n : Nat), vs = [.ref d, .int many] ∧ 0 < many ∧ many.natAbs < 2 ^ 8000 ∧ DeckAt H d c n ∧ n ≤ 2 ^ 50 ∧
  ∀ (r : Int) (H' : Hp), 0 ≤ r → r < many → Keep d H H' → DeckAt H' d c (n + 1) → Q (.int r) H'
def spDeck (K : PySem.W.Frag) : Sp := fun vs H Q _ => ∃ (a : Addr) (ns : List Int), vs = [.ref a] ∧ SqL K H a (ns.map V.int) ∧ ∀ (d c : Addr) (H' : Hp), H d = none → Same H H' → DeckAt H' d c 0 → Q (.ref d) H'
def spGreat : Sp := fun vs H Q _ => ∃ (d c : Addr) (most : Int) (n : Nat), vs = [.ref d, .int most] ∧ 0 < most ∧ DeckAt H d c n ∧ n ≤ 2 ^ 49 ∧
  ∀ (r : Int) (H' : Hp), 0 ≤ r → r < most → Keep d H H' → DeckAt H' d c (n + 8) → Q (.int r) H'
def spAPower : Sp := fun vs H Q _ => ∃ (d c : Addr) (most : Int) (n : Nat), vs = [.ref d, .int most] ∧ 0 < most ∧ most < 2 ^ 200 ∧ DeckAt H d c n ∧ n ≤ 2 ^ 48 ∧
  ∀ (r : Int) (H' : Hp), 0 < r → r ≤ most → Keep d H H' → DeckAt H' d c (n + 16) → Q (.int r) H'
def spNumber : Sp := fun vs H Q _ => ∃ (d c : Addr) (most : Int) (n : Nat), vs = [.ref d, .int most] ∧ 0 < most ∧ most < 2 ^ 199 ∧ DeckAt H d c n ∧ n ≤ 2 ^ 47 ∧
  ∀ (r : Int) (H' : Hp), 0 ≤ r → r ≤ most → Keep d H H' → DeckAt H' d c (n + 50) → Q (.int r) H'
end Pw
namespace Pw
open PySem PySem.Spec PyProof.Rows L2
theorem at_st {t : TS} {D : Ends} {H : Hp} {σ' : L2.St} (σ : L2.St) (e : σ' = σ) (h : t D σ H) : t D σ' H := by subst e; exact h
end Pw
namespace Pw
open PySem PySem.Spec PyProof.Rows L2
theorem cxK2 {CX : CXT} {P : Program} {w : World} {K : PySem.W.Frag} {mg : Str → Option Value} {base : Heap} {N : List Str} {qual : Str} {scope : Scope} {f : Addr} {cd : Value} {A : Around} {outer : List Env} {s : Shared} {H : Hp} {E : XK} :
    (cxOf CX P w K mg base N qual scope f cd A outer s H E).K = K := rfl
theorem cxK {CX : CXT} {P : Program} {w : World} {K : PySem.W.Frag} {mg : Str → Option Value} {base : Heap} {N : List Str} {qual : Str} {scope : Scope} {f : Addr} {cd : Value} {A : Around} {outer : List Env} {s : Shared} {H : Hp} {E : XK} :
    (cxOf CX P w K mg base N qual scope f cd A outer s H E).nox.K = K := rfl
section
variable {K : PySem.W.Frag} {H : Hp} {Q : VK} {i : Int} {v : V}
theorem r_setLx {p : Addr} {xs : List V} (ys : List V) {jx : Nat} {R : Hp → Prop} (h : H p = some (.lst xs)) (hj : ixN xs.length i = some jx) (e : xs.set jx v = ys) (q : ∀ H', H' p = some (.lst ys) → Keep p H H' → R H') : rSetL (.ref p) (.int i) v H R :=
  r_setL h hj (q _ (by rw [e]; exact upd_same) Keep.upd)
theorem r_sum {a : Addr} {ns : List Int} (h : SqL K H a (ns.map V.int)) (q : Q (.int ns.sum) H) : rSum K [.ref a] H Q := ⟨a, ns, rfl, h, q⟩
theorem cut_to (ns : List Int) (k : Nat) : cutV (ns.map V.int) none (some (k : Int)) = (ns.take k).map V.int := by
  unfold cutV
  rw [HT.sIx_none, HT.sIx_nat]
  rw [List.length_map, List.drop_zero, Nat.sub_zero, ← List.map_take]
  congr 1
  rcases Nat.le_total k ns.length with h | h
  · rw [Nat.min_eq_left h]
  · rw [Nat.min_eq_right h, List.take_of_length_le (Nat.le_refl _), List.take_of_length_le h]
end
end Pw

namespace Pw
open PySem PySem.Spec PyProof.Rows L2
theorem r_pow2 {H : Hp} {Q : VK} (q : Q (.int 100) H) : rI CPow (fun i j => V.int (i ^ j.toNat)) (.int 10) (.int 2) H Q := r_I (show CPow 10 2 from ⟨by decide, by decide, by decide⟩) (by rw [show (10 : Int) ^ (2 : Int).toNat = 100 by decide]; exact q)
theorem r_pow3 {H : Hp} {Q : VK} (q : Q (.int 1000) H) : rI CPow (fun i j => V.int (i ^ j.toNat)) (.int 10) (.int 3) H Q := r_I (show CPow 10 3 from ⟨by decide, by decide, by decide⟩) (by rw [show (10 : Int) ^ (3 : Int).toNat = 1000 by decide]; exact q)
theorem r_pow4 {H : Hp} {Q : VK} (q : Q (.int 10000) H) : rI CPow (fun i j => V.int (i ^ j.toNat)) (.int 10) (.int 4) H Q := r_I (show CPow 10 4 from ⟨by decide, by decide, by decide⟩) (by rw [show (10 : Int) ^ (4 : Int).toNat = 10000 by decide]; exact q)
theorem r_pow5 {H : Hp} {Q : VK} (q : Q (.int 100000) H) : rI CPow (fun i j => V.int (i ^ j.toNat)) (.int 10) (.int 5) H Q := r_I (show CPow 10 5 from ⟨by decide, by decide, by decide⟩) (by rw [show (10 : Int) ^ (5 : Int).toNat = 100000 by decide]; exact q)
theorem r_pow6 {H : Hp} {Q : VK} (q : Q (.int 1000000) H) : rI CPow (fun i j => V.int (i ^ j.toNat)) (.int 10) (.int 6) H Q := r_I (show CPow 10 6 from ⟨by decide, by decide, by decide⟩) (by rw [show (10 : Int) ^ (6 : Int).toNat = 1000000 by decide]; exact q)
theorem r_pow8 {H : Hp} {Q : VK} (q : Q (.int 100000000) H) : rI CPow (fun i j => V.int (i ^ j.toNat)) (.int 10) (.int 8) H Q := r_I (show CPow 10 8 from ⟨by decide, by decide, by decide⟩) (by rw [show (10 : Int) ^ (8 : Int).toNat = 100000000 by decide]; exact q)
theorem r_pow9 {H : Hp} {Q : VK} (q : Q (.int 1000000000) H) : rI CPow (fun i j => V.int (i ^ j.toNat)) (.int 10) (.int 9) H Q := r_I (show CPow 10 9 from ⟨by decide, by decide, by decide⟩) (by rw [show (10 : Int) ^ (9 : Int).toNat = 1000000000 by decide]; exact q)
theorem r_pow10 {H : Hp} {Q : VK} (q : Q (.int 10000000000) H) : rI CPow (fun i j => V.int (i ^ j.toNat)) (.int 10) (.int 10) H Q := r_I (show CPow 10 10 from ⟨by decide, by decide, by decide⟩) (by rw [show (10 : Int) ^ (10 : Int).toNat = 10000000000 by decide]; exact q)
theorem r_pow11 {H : Hp} {Q : VK} (q : Q (.int 100000000000) H) : rI CPow (fun i j => V.int (i ^ j.toNat)) (.int 10) (.int 11) H Q := r_I (show CPow 10 11 from ⟨by decide, by decide, by decide⟩) (by rw [show (10 : Int) ^ (11 : Int).toNat = 100000000000 by decide]; exact q)
theorem r_pow12 {H : Hp} {Q : VK} (q : Q (.int 1000000000000) H) : rI CPow (fun i j => V.int (i ^ j.toNat)) (.int 10) (.int 12) H Q := r_I (show CPow 10 12 from ⟨by decide, by decide, by decide⟩) (by rw [show (10 : Int) ^ (12 : Int).toNat = 1000000000000 by decide]; exact q)
theorem r_pow18 {H : Hp} {Q : VK} (q : Q (.int 1000000000000000000) H) : rI CPow (fun i j => V.int (i ^ j.toNat)) (.int 10) (.int 18) H Q := r_I (show CPow 10 18 from ⟨by decide, by decide, by decide⟩) (by rw [show (10 : Int) ^ (18 : Int).toNat = 1000000000000000000 by decide]; exact q)
theorem r_pow20 {H : Hp} {Q : VK} (q : Q (.int 100000000000000000000) H) : rI CPow (fun i j => V.int (i ^ j.toNat)) (.int 10) (.int 20) H Q := r_I (show CPow 10 20 from ⟨by decide, by decide, by decide⟩) (by rw [show (10 : Int) ^ (20 : Int).toNat = 100000000000000000000 by decide]; exact q)
theorem r_pow30 {H : Hp} {Q : VK} (q : Q (.int 1000000000000000000000000000000) H) : rI CPow (fun i j => V.int (i ^ j.toNat)) (.int 10) (.int 30) H Q := r_I (show CPow 10 30 from ⟨by decide, by decide, by decide⟩) (by rw [show (10 : Int) ^ (30 : Int).toNat = 1000000000000000000000000000000 by decide]; exact q)
theorem r_pow35 {H : Hp} {Q : VK} (q : Q (.int 100000000000000000000000000000000000) H) : rI CPow (fun i j => V.int (i ^ j.toNat)) (.int 10) (.int 35) H Q := r_I (show CPow 10 35 from ⟨by decide, by decide, by decide⟩) (by rw [show (10 : Int) ^ (35 : Int).toNat = 100000000000000000000000000000000000 by decide]; exact q)
theorem r_pow40 {H : Hp} {Q : VK} (q : Q (.int 10000000000000000000000000000000000000000) H) : rI CPow (fun i j => V.int (i ^ j.toNat)) (.int 10) (.int 40) H Q := r_I (show CPow 10 40 from ⟨by decide, by decide, by decide⟩) (by rw [show (10 : Int) ^ (40 : Int).toNat = 10000000000000000000000000000000000000000 by decide]; exact q)
theorem r_pow41 {H : Hp} {Q : VK} (q : Q (.int 100000000000000000000000000000000000000000) H) : rI CPow (fun i j => V.int (i ^ j.toNat)) (.int 10) (.int 41) H Q := r_I (show CPow 10 41 from ⟨by decide, by decide, by decide⟩) (by rw [show (10 : Int) ^ (41 : Int).toNat = 100000000000000000000000000000000000000000 by decide]; exact q)
theorem r_pow42 {H : Hp} {Q : VK} (q : Q (.int 1000000000000000000000000000000000000000000) H) : rI CPow (fun i j => V.int (i ^ j.toNat)) (.int 10) (.int 42) H Q := r_I (show CPow 10 42 from ⟨by decide, by decide, by decide⟩) (by rw [show (10 : Int) ^ (42 : Int).toNat = 1000000000000000000000000000000000000000000 by decide]; exact q)
theorem r_pow50 {H : Hp} {Q : VK} (q : Q (.int 100000000000000000000000000000000000000000000000000) H) : rI CPow (fun i j => V.int (i ^ j.toNat)) (.int 10) (.int 50) H Q := r_I (show CPow 10 50 from ⟨by decide, by decide, by decide⟩) (by rw [show (10 : Int) ^ (50 : Int).toNat = 100000000000000000000000000000000000000000000000000 by decide]; exact q)
theorem r_pow60 {H : Hp} {Q : VK} (q : Q (.int 1000000000000000000000000000000000000000000000000000000000000) H) : rI CPow (fun i j => V.int (i ^ j.toNat)) (.int 10) (.int 60) H Q := r_I (show CPow 10 60 from ⟨by decide, by decide, by decide⟩) (by rw [show (10 : Int) ^ (60 : Int).toNat = 1000000000000000000000000000000000000000000000000000000000000 by decide]; exact q)
end Pw

namespace Pw
open PySem PySem.Spec PyProof.Rows L2
theorem DeckAt.ne {H : Hp} {d c p : Addr} {n : Nat} (D : DeckAt H d c n) (h : H p = none) : p ≠ d := by
  obtain ⟨cells, b, l, m, t, h1, _⟩ := D.ex
  exact (ne_of_none h1 h).symm
theorem DeckAt.nec {H : Hp} {d c p : Addr} {n : Nat} (D : DeckAt H d c n) (h : H p = none) : p ≠ c := by
  obtain ⟨cells, b, l, m, t, h1, h2, _⟩ := D.ex
  exact (ne_of_none h2 h).symm
theorem DeckAt.upd {H : Hp} {d c l : Addr} {n : Nat} {o : HO} (D : DeckAt H d c n) (hd : l ≠ d) (hc : l ≠ c) : DeckAt (L2.upd H l o) d c n := by
  obtain ⟨cells, b, l', m, t, h1, h2, h3⟩ := D.ex
  exact ⟨cells, b, l', m, t, by rw [upd_ne (Ne.symm hd)]; exact h1, by rw [upd_ne (Ne.symm hc)]; exact h2, h3⟩
theorem DeckAt.tup {H : Hp} {d c p : Addr} {n : Nat} {xs : List V} (D : DeckAt H d c n) (h : H p = some (.tup xs)) : p ≠ d := by
  obtain ⟨cells, b, l, m, t, h1, _⟩ := D.ex
  exact ne_of h h1 (by intro z; cases z)
theorem at_ints {ns : List Int} {i : Int} (h0 : 0 ≤ i) (h1 : i < ns.length) : ∃ z, z ∈ ns ∧ atI (ns.map V.int) i = some (.int z) := by
  obtain ⟨j, rfl⟩ := Int.eq_ofNat_of_zero_le h0
  have hj : j < ns.length := by omega
  exact ⟨ns[j], List.getElem_mem hj, atI_nat (by rw [List.getElem?_map, List.getElem?_eq_getElem hj]; rfl)⟩
end Pw

namespace Pw
open PySem PySem.Spec PyProof.Rows L2
theorem r_shl1 {H : Hp} {Q : VK} {j : Int} (h0 : 0 ≤ j) (h1 : j ≤ 100000000) (q : ∀ k : Nat, j = (k : Int) → Q (.int (2 ^ k)) H) : rI CShl (fun i j => V.int (i * 2 ^ j.toNat)) (.int 1) (.int j) H Q := by
  obtain ⟨k, rfl⟩ := Int.eq_ofNat_of_zero_le h0
  refine r_I (shl_ok (n := 1) (by decide) (by omega)) ?_
  have e : (1 : Int) * 2 ^ ((k : Int)).toNat = 2 ^ k := by rw [Int.one_mul, Int.toNat_natCast]
  rw [e]
  exact q k rfl
theorem emod_le {a b : Int} (ha : 0 ≤ a) (hb : 0 ≤ b) : a % b ≤ a := by
  obtain ⟨n, rfl⟩ := Int.eq_ofNat_of_zero_le ha
  obtain ⟨m, rfl⟩ := Int.eq_ofNat_of_zero_le hb
  exact_mod_cast Nat.mod_le n m
theorem pow2_pos (k : Nat) : (0 : Int) < 2 ^ k := Int.pow_pos (by decide)
theorem mul_pos1 {a b : Int} (ha : 0 < a) (hb : 0 < b) : 0 < a * b := Int.mul_pos ha hb
end Pw

namespace Pw
open PySem PySem.Spec PyProof.Rows L2
section
variable {K : PySem.W.Frag} {H : Hp} {Q : VK} {i : Int} {x y v : V}
theorem kB_ii : kitB "int" "int" = some true := by decide +kernel
theorem kB_ib : kitB "int" "bool" = some false := by decide +kernel
theorem kB_bb : kitB "bool" "bool" = some true := by decide +kernel
theorem kB_bi : kitB "bool" "int" = some true := by decide +kernel
theorem kB_tt : kitB "tuple" "tuple" = some true := by decide +kernel
theorem kB_tb : kitB "tuple" "bool" = some false := by decide +kernel
theorem kB_ti : kitB "tuple" "int" = some false := by decide +kernel
theorem kB_ss : kitB "str" "str" = some true := by decide +kernel
theorem kB_nt : kitB "NoneType" "tuple" = some false := by decide +kernel
theorem kB_it : kitB "int" "tuple" = some false := by decide +kernel
theorem kB_ll : kitB "list" "list" = some true := by decide +kernel
theorem r_isi {T n : String} {b : Bool} (ty : TyX K H x (.type T)) (h : kitB T n = some b) (q : Q (.bl b) H) : rIsi K [x, .ty n] H Q := ⟨x, .ty n, .type T, .type n, b, rfl, .ty n, ty, kit_ty h, q⟩
theorem r_isiII (q : Q (.bl true) H) : rIsi K [.int i, .ty "int"] H Q := r_isi (.base (.int i)) kB_ii q
theorem r_isiIB (q : Q (.bl false) H) : rIsi K [.int i, .ty "bool"] H Q := r_isi (.base (.int i)) kB_ib q
theorem r_isiIT (q : Q (.bl false) H) : rIsi K [.int i, .ty "tuple"] H Q := r_isi (.base (.int i)) kB_it q
theorem r_isiBB {b : Bool} (q : Q (.bl true) H) : rIsi K [.bl b, .ty "bool"] H Q := r_isi (.base (.bl b)) kB_bb q
theorem r_isiSS {z : Str} (q : Q (.bl true) H) : rIsi K [.str z, .ty "str"] H Q := r_isi (.base (.str z)) kB_ss q
theorem r_isiTT {p : Addr} {xs : List V} (h : H p = some (.tup xs)) (q : Q (.bl true) H) : rIsi K [.ref p, .ty "tuple"] H Q := r_isi (.base (.tup h)) kB_tt q
theorem r_isiTB {p : Addr} {xs : List V} (h : H p = some (.tup xs)) (q : Q (.bl false) H) : rIsi K [.ref p, .ty "bool"] H Q := r_isi (.base (.tup h)) kB_tb q
theorem r_isiTI {p : Addr} {xs : List V} (h : H p = some (.tup xs)) (q : Q (.bl false) H) : rIsi K [.ref p, .ty "int"] H Q := r_isi (.base (.tup h)) kB_ti q

/-! ### data -/
theorem dp_ints : ∀ ns : List Int, DpAll K H (ns.map V.int) (ns.map PyData.int)
  | [] => .nil
  | n :: ns => .cons (.int n) (dp_ints ns)
theorem lay_ints : ∀ ns : List Int, PyData.canLayAll0 (ns.map PyData.int) = true
  | [] => by simp only [List.map_nil, PyData.canLayAll0]
  | n :: ns => by simp only [List.map_cons, PyData.canLayAll0, PyData.canLay0, lay_ints ns, Bool.and_self]
theorem depth_ints : ∀ ns : List Int, PyData.depthAll (ns.map PyData.int) = 0
  | [] => by simp only [List.map_nil, PyData.depthAll]
  | n :: ns => by simp only [List.map_cons, PyData.depthAll, PyData.depth, depth_ints ns, Nat.max_self]
theorem shaped_tup (ns : List Int) : SeqAt.shaped (.tuple (ns.map PyData.int)) = true := by
  unfold SeqAt.shaped
  simp only [PyData.canLay0, PyData.depth, lay_ints, depth_ints, Bool.true_and, decide_eq_true_eq]
  decide
theorem shaped_lst (ns : List Int) : SeqAt.shaped (.list (ns.map PyData.int)) = true := by
  unfold SeqAt.shaped
  simp only [PyData.canLay0, PyData.depth, lay_ints, depth_ints, Bool.true_and, decide_eq_true_eq]
  decide
theorem eqv_ints : ∀ ns ms : List Int, PyData.eqvAll (ns.map PyData.int) (ms.map PyData.int) = decide (ns = ms)
  | [], [] => by simp [PyData.eqvAll]
  | [], _ :: _ => by simp [PyData.eqvAll]
  | _ :: _, [] => by simp [PyData.eqvAll]
  | n :: ns, m :: ms => by
    simp only [List.map_cons, PyData.eqvAll, PyData.eqv, eqv_ints ns ms]
    by_cases h : n = m
    · by_cases h2 : ns = ms <;> simp [h, h2]
    · simp [h]
theorem r_eqDT {p q : Addr} {ns ms : List Int} (hp : SqT K H p (ns.map V.int)) (hq : SqT K H q (ms.map V.int)) (k : Q (.bl (decide (ns = ms))) H) : rEqD K (.ref p) (.ref q) H Q :=
  ⟨.tuple (ns.map PyData.int), .tuple (ms.map PyData.int), .tup hp (dp_ints ns), .tup hq (dp_ints ms), shaped_tup ns, shaped_tup ms, by rw [show PyData.eqv (.tuple (ns.map PyData.int)) (.tuple (ms.map PyData.int)) = decide (ns = ms) from by simp only [PyData.eqv, eqv_ints]]; exact k⟩
theorem r_neDT {p q : Addr} {ns ms : List Int} (hp : SqT K H p (ns.map V.int)) (hq : SqT K H q (ms.map V.int)) (k : Q (.bl (!decide (ns = ms))) H) : rNeD K (.ref p) (.ref q) H Q :=
  ⟨.tuple (ns.map PyData.int), .tuple (ms.map PyData.int), .tup hp (dp_ints ns), .tup hq (dp_ints ms), shaped_tup ns, shaped_tup ms, by rw [show PyData.eqv (.tuple (ns.map PyData.int)) (.tuple (ms.map PyData.int)) = decide (ns = ms) from by simp only [PyData.eqv, eqv_ints]]; exact k⟩
theorem r_eqDL {p q : Addr} {ns ms : List Int} (hp : SqL K H p (ns.map V.int)) (hq : SqL K H q (ms.map V.int)) (k : Q (.bl (decide (ns = ms))) H) : rEqD K (.ref p) (.ref q) H Q :=
  ⟨.list (ns.map PyData.int), .list (ms.map PyData.int), .lst hp (dp_ints ns), .lst hq (dp_ints ms), shaped_lst ns, shaped_lst ms, by rw [show PyData.eqv (.list (ns.map PyData.int)) (.list (ms.map PyData.int)) = decide (ns = ms) from by simp only [PyData.eqv, eqv_ints]]; exact k⟩
theorem r_neDL {p q : Addr} {ns ms : List Int} (hp : SqL K H p (ns.map V.int)) (hq : SqL K H q (ms.map V.int)) (k : Q (.bl (!decide (ns = ms))) H) : rNeD K (.ref p) (.ref q) H Q :=
  ⟨.list (ns.map PyData.int), .list (ms.map PyData.int), .lst hp (dp_ints ns), .lst hq (dp_ints ms), shaped_lst ns, shaped_lst ms, by rw [show PyData.eqv (.list (ns.map PyData.int)) (.list (ms.map PyData.int)) = decide (ns = ms) from by simp only [PyData.eqv, eqv_ints]]; exact k⟩
end
/-! ### comprehensions -/
section
variable {K : PySem.W.Frag} {H : Hp} {Q : VK} {σ : L2.St} {te tl : TE} {tt : TT} {g : TG} {vs : List Nat}
theorem r_lc {wi : TI} (h : wi σ H fun J H1 => ∀ D, H1 D = none → ∃ W : Nat → Nat → Hp → Prop, (∃ m, W 0 m (upd H1 D (.lst []))) ∧ ∀ i m H, W i m H →
  (J.stop i H ∧ Q (.ref D) H) ∨ (J.go i H ∧ ∃ Nx : Hp → Prop, (∀ H', Nx H' → ∃ m', m' < m ∧ W (i + 1) m' H') ∧ ∀ x H', J.yld i H x H' → g x (wipe σ vs) H' fun σ2 H2 => wipe σ2 vs = wipe σ vs ∧ tt σ2 H2 fun b H3 =>
    if b = true then te σ2 H3 fun y H4 => ∃ acc, H4 D = some (.lst acc) ∧ acc.length < sizeLine ∧ Nx (upd H4 D (.lst (acc ++ [y]))) else Nx H3)) : tLc wi g tt te vs σ H Q := h
/-- over a tuple, a list: nothing kept, nothing changed -/
theorem lc_none {p D : Addr} {xs : List V} {j : Nat} {Qd : Hp → Prop} (nD : H D = none) (hp : H p = some (.tup xs)) (hw : ∀ x, wipe ((wipe σ vs).set j (some x)) vs = wipe σ vs) (hs : ∀ x H' (F : Bool → Hp → Prop), x ∈ xs → Same H H' → F false H' → tt ((wipe σ vs).set j (some x)) H' F)
    (q : ∀ H', H' D = some (.lst []) → Same H H' → Qd H') : ∃ W : Nat → Nat → Hp → Prop, (∃ m, W 0 m (upd H D (.lst []))) ∧ ∀ i m H, W i m H →
  ((Itt K p).stop i H ∧ Qd H) ∨ ((Itt K p).go i H ∧ ∃ Nx : Hp → Prop, (∀ H', Nx H' → ∃ m', m' < m ∧ W (i + 1) m' H') ∧ ∀ x H', (Itt K p).yld i H x H' → gName j x (wipe σ vs) H' fun σ2 H2 => wipe σ2 vs = wipe σ vs ∧ tt σ2 H2 fun b H3 =>
    if b = true then te σ2 H3 fun y H4 => ∃ acc, H4 D = some (.lst acc) ∧ acc.length < sizeLine ∧ Nx (upd H4 D (.lst (acc ++ [y]))) else Nx H3) :=
  lc_tup (xs := xs) (fun _ H' => Same H H' ∧ H' D = some (.lst [])) ⟨same_new nD, upd_same⟩ (fun i H' _ ⟨s, _⟩ => SqT.of (s _ _ hp)) (fun i x H' hx ⟨s, e⟩ => ⟨hw x, hs x H' _ (List.mem_of_getElem? hx) s (iteF ⟨s, e⟩)⟩) (fun H' ⟨s, e⟩ => q H' e s)
end
def spAre (K : PySem.W.Frag) : Sp := fun vs H Q _ => ∃ (p q : Addr) (ns : List Int), vs = [.ref p, .ref q] ∧ H p = some (.tup (ns.map V.int)) ∧ H q = some (.tup (ns.map V.int)) ∧ ∀ H', Same H H' → Q (.bl true) H'
def spTakenL : Sp := fun vs H Q _ => ∃ (b e a : Nat), vs = [.int (b : Int), .int (e : Int)] ∧ b < 2 ^ a ∧ a * e ≤ 1000000 ∧ e < 2 ^ 60 ∧ Q (.int ((b ^ e : Nat) : Int)) H
end Pw
namespace Pw
open PySem PySem.Spec PyProof.Rows L2
/-- a list of pairs of ints -/
structure Rows (H : Hp) (l : Addr) (ps : List Addr) (R : Int → Int → Prop) : Prop where
  lst : H l = some (.lst (ps.map V.ref))
  row : ∀ p ∈ ps, ∃ a b : Int, H p = some (.tup [.int a, .int b]) ∧ R a b
theorem Rows.same {H H' : Hp} {l : Addr} {ps : List Addr} {R : Int → Int → Prop} (r : Rows H l ps R) (s : Same H H') : Rows H' l ps R :=
  ⟨s _ _ r.lst, fun p hp => let ⟨a, b, h, q⟩ := r.row p hp; ⟨a, b, s _ _ h, q⟩⟩
theorem Rows.keep {H H' : Hp} {l d c : Addr} {n : Nat} {ps : List Addr} {R : Int → Int → Prop} (r : Rows H l ps R) (D : DeckAt H d c n) (hl : l ≠ d) (k : Keep d H H') : Rows H' l ps R :=
  ⟨k _ _ hl r.lst, fun p hp => let ⟨a, b, h, q⟩ := r.row p hp; ⟨a, b, k _ _ (D.tup h) h, q⟩⟩
theorem Rows.push {H H' : Hp} {l p : Addr} {ps : List Addr} {R : Int → Int → Prop} {a b : Int} (r : Rows H l ps R) (hp : H p = some (.tup [.int a, .int b])) (hr : R a b) (e : H' = upd H l (.lst (ps.map V.ref ++ [.ref p]))) : Rows H' l (ps ++ [p]) R := by
  subst e
  refine ⟨by rw [upd_same, List.map_append]; rfl, fun q hq => ?_⟩
  rcases List.mem_append.mp hq with h | h
  · obtain ⟨a', b', h1, h2⟩ := r.row q h
    exact ⟨a', b', by rw [upd_ne (ne_of h1 r.lst (by intro z; cases z))]; exact h1, h2⟩
  · have : q = p := by simpa using h
    subst this
    exact ⟨a, b, by rw [upd_ne (ne_of hp r.lst (by intro z; cases z))]; exact hp, hr⟩
theorem keep_upd {d l : Addr} {H : Hp} {o : HO} : Keep l H (upd H l o) := Keep.upd
theorem r_cat {H : Hp} {Q : VK} {l b : Addr} {xs zs : List V} (h1 : H l = some (.lst xs)) (h2 : H b = some (.lst zs)) (hl : xs.length + zs.length ≤ 1000) (q : NewC Q (xs ++ zs) H) : rCat (.ref l) (.ref b) H Q :=
  ⟨l, b, xs, zs, rfl, rfl, h1, h2, Nat.le_of_lt (small1000 hl), q⟩
theorem cut_toV (xs : List V) (k : Nat) : cutV xs none (some (k : Int)) = xs.take k := by
  unfold cutV
  rw [HT.sIx_none, HT.sIx_nat, List.drop_zero, Nat.sub_zero]
  rcases Nat.le_total k xs.length with h | h
  · rw [Nat.min_eq_left h]
  · rw [Nat.min_eq_right h, List.take_of_length_le (Nat.le_refl _), List.take_of_length_le h]
theorem r_gTup2 {K : PySem.W.Frag} {p : Addr} {a b : V} {i j : Nat} {σ : L2.St} {H : Hp} {R : L2.St → Hp → Prop} (h : H p = some (.tup [a, b])) (q : R ((σ.set i (some a)).set j (some b)) H) : gTup K 2 (gCons (gName i) (gCons (gName j) gNil)) (.ref p) σ H R :=
  ⟨p, [a, b], rfl, SqT.of h, rfl, a, [b], rfl, b, [], rfl, rfl, q⟩
end Pw
namespace Pw
open PySem PySem.Spec PyProof.Rows L2
theorem pl_mk {K : PySem.W.Frag} {h : Heap} {mg : Str → Option Value} (X : K.In h) (G : h.Ns mainGlobals mg) {x : Str} {st : Stmt} {ps : List Str} {f : Addr} {oc : Value} {od an : Option Addr} {sl : Array (Option Value)} {kV doc pm cdv ct : Value}
    (a : PySem.W.nsIn K mainGlobals x = some (some (.ref f))) (l : K.lookup f = some ⟨oc, od, .func (PySem.W.fnOf x x (defArgs st) (defBody st) (defScope st) .none kV doc pm an cdv ct), sl⟩)
    (c : PySem.W.codeIn K cdv x = true) (k : PySem.W.keepIn K (.ref f) = true)
    (hb : ∀ (kV doc pm : Value) (an : Option Addr) (cdv ct : Value) (us : List Value), us.length = ps.length → bindArgs (PySem.W.fnOf x x (defArgs st) (defBody st) (defScope st) .none kV doc pm an cdv ct) ⟨us, []⟩ = pure (ps.zip us)) : Pl K mg x st ps :=
  ⟨f, _, fun_mk l c k, PySem.W.mg_of X G a, (fun_mk l c k).binds hb⟩
end Pw

/-! Texts: a text is S of its signs. -/
namespace Pw
open PySem PySem.Spec PyProof.Rows L2 SX
def rCatS : R2 := fun x y H Q => ∃ i j : Str, x = .str i ∧ y = .str j ∧ i.length + j.length ≤ sizeLine ∧ Q (.str (i ++ j)) H
theorem op_catS {X : Cx} : OpR X (binaryOp .Add) rCatS := op_add_str
def rRepS : R2 := fun x y H Q => ∃ (c : Nat) (n : Int), x = .str (S [c]) ∧ y = .int n ∧ n ≤ 100000 ∧ -100000 ≤ n ∧ Q (.str (S (List.replicate n.toNat c))) H
theorem fold_rep (c : Nat) : ∀ (n : Nat) (a : Array Nat), ((List.replicate n #[c]).foldl (· ++ ·) a) = a ++ (List.replicate n c).toArray
  | 0, a => by simp
  | n + 1, a => by
    rw [List.replicate_succ, List.foldl_cons, fold_rep c n, List.replicate_succ]
    refine Array.toList_inj.mp ?_
    simp
theorem mul_rep (c : Nat) (n : Int) : Txt.mul (S [c]) n = S (List.replicate n.toNat c) := by
  unfold Txt.mul
  by_cases h : n < 1
  · rw [if_pos h]
    have : n.toNat = 0 := by omega
    rw [this]
    rfl
  · rw [if_neg h]
    by_cases h1 : n = 1
    · subst h1
      rfl
    · rw [if_neg (by simp [S, Str.length]; exact h1)]
      show (⟨(List.replicate n.toNat #[c]).foldl (· ++ ·) #[]⟩ : Str) = _
      rw [fold_rep]
      simp [S]
theorem op_repS {X : Cx} : OpR X (binaryOp .Mult) rRepS := by
  intro pins s σ H x y v u Q I rx ry h
  obtain ⟨c, n, rfl, rfl, h1, h2, q⟩ := h
  obtain ⟨t, rfl⟩ := rx
  obtain ⟨t2, rfl⟩ := ry
  refine PySem.SB.mul ⟨by simp; omega, fun g1 g2 => ?_, fun g1 g2 => ?_⟩ fun t' k => ⟨.str _, H, I.tok _, ⟨_, rfl⟩, by rw [mul_rep]; exact q⟩
  · have e : (S [c]).length = 1 := S_len [c]
    rw [e]
    have : (1 : Int) ≤ (2 ^ 63 - 1) / n := by
      refine (Int.le_ediv_iff_mul_le (by omega)).mpr ?_
      omega
    show ¬ ((1 : Nat) : Int) > _
    omega
  · have e : (S [c]).length = 1 := S_len [c]
    rw [e]
    have h3 : n.toNat ≤ 100000 := by omega
    have hz : (100000 : Nat) ≤ sizeLine := by decide
    unfold Builtin.Str.tooLong
    simp
    omega
def rJoin (K : PySem.W.Frag) : V → List V → Hp → VK → Prop := fun x xs H Q => ∃ a p, ∃ ys : List Str, x = .str a ∧ xs = [.ref p] ∧ (SqL K H p (ys.map V.str) ∨ SqT K H p (ys.map V.str)) ∧ (ys.map (·.length)).sum + ys.length * a.length ≤ 16777216 ∧ Q (.str (Txt.join a ys)) H
theorem mt_joinN {X : Cx} : MtR X "str.join" (rJoin X.K) := mt_join
def rZfill : V → List V → Hp → VK → Prop := fun x xs H Q => ∃ (a : Str) (i : Int), x = .str a ∧ xs = [.int i] ∧ PadOk i = true ∧ Q (.str (Txt.zfill a i)) H
theorem mt_zfillN {X : Cx} : MtR X "str.zfill" rZfill := mt_zfill
def rStrI : List V → Hp → VK → Prop := fun xs H Q => ∃ i : Int, xs = [.int i] ∧ i.natAbs.log2 < 1920 ∧ Q (.str (toString i : String)) H
theorem cr_strI {X : Cx} : CallR X (.type "str") rStrI := call_str_int
def rIntS : List V → Hp → VK → Prop := fun xs H Q => ∃ (a : Str) (n : Int), xs = [.str a] ∧ PySem.intText? a = some n ∧ a.length ≤ 640 ∧ Q (.int n) H
theorem cr_intS {X : Cx} : CallR X (.type "int") rIntS := call_int_str
def rDivmod : List V → Hp → VK → Prop := fun xs H Q => ∃ i j : Int, xs = [.int i, .int j] ∧ CDivP i j ∧ ∀ p, H p = none → Q (.ref p) (upd H p (.tup [.int (i / j), .int (i % j)]))
theorem cr_divmod {X : Cx} : CallR X (.builtin "divmod") rDivmod := call_divmodW
def rInSign : R2 := fun x y H Q => ∃ (c : Nat) (z : Str), x = .str ⟨#[c]⟩ ∧ y = .str z ∧ Q (.bl (decide (c ∈ z.cps.toList))) H
theorem op_inSign {X : Cx} : OpR X (compareOp .In) rInSign := op_in_sign
/-! ### the reading -/
section
variable {K : PySem.W.Frag} {σ : L2.St} {H : Hp} {Q : VK} {te ta : TE} {a b : List Nat} {i : Int} {c : Nat}
theorem r_catS (h : a.length + b.length ≤ 100000) (q : Q (.str (S (a ++ b))) H) : rCatS (.str (S a)) (.str (S b)) H Q :=
  ⟨S a, S b, rfl, rfl, by rw [S_len, S_len]; exact Nat.le_trans h (by decide), by rw [S_cat]; exact q⟩
theorem r_repS {n : Int} (h1 : n ≤ 100000) (h2 : -100000 ≤ n) (q : Q (.str (S (List.replicate n.toNat c))) H) : rRepS (.str (S [c])) (.int n) H Q := ⟨c, n, rfl, rfl, h1, h2, q⟩
theorem r_ixS (h : a.length ≤ 100000) (ha : atI a i = some c) (q : Q (.str (S [c])) H) : rIxS (.str (S a)) (.int i) H Q := ⟨S a, i, c, rfl, rfl, by rw [S_len]; exact Nat.le_trans h (by decide), ha, q⟩
theorem r_lenSS (h : a.length ≤ 100000) (q : Q (.int (a.length : Nat)) H) : rLenT [.str (S a)] H Q := ⟨S a, rfl, by rw [S_len]; exact Nat.le_trans h (by decide), by rw [S_len]; exact q⟩
theorem r_M1 {r : V → List V → Hp → VK → Prop} (h : ta σ H fun x H1 => (∃ a, x = .str a) ∧ te σ H1 fun y H2 => r x [y] H2 Q) : tM1 r ta te σ H Q := h
theorem r_exS {A : Prop} {x : Str} (h : A) : (∃ a, V.str x = .str a) ∧ A := ⟨⟨x, rfl⟩, h⟩
theorem tl_joinE (ls : List (List Nat)) : Txt.join (S []) (ls.map S) = S ls.flatten := by
  rw [TL.join_eq]
  refine TL.ext_tl ?_
  rw [TL.tl_join]
  have e : (ls.map S).map TL.tl = ls := map_S_tl ls
  rw [e]
  show TL.joinL [] ls = ls.flatten
  induction ls with
  | nil => rfl
  | cons x r ih =>
    cases r with
    | nil => simp [TL.joinL]
    | cons y r => rw [TL.joinL, List.nil_append, ih (map_S_tl _), List.flatten_cons (l := x)]
theorem r_join {p : Addr} {ls : List (List Nat)} (h : SqL K H p (ls.map fun l => V.str (S l))) (hl : ls.flatten.length ≤ 100000) (q : Q (.str (S ls.flatten)) H) : rJoin K (.str (S [])) [.ref p] H Q := by
  refine ⟨S [], p, ls.map S, rfl, rfl, .inl ?_, ?_, ?_⟩
  · rw [List.map_map]
    exact h
  · rw [lens, S_len, List.length_nil, Nat.mul_zero, Nat.add_zero, ← List.length_flatten]
    exact Nat.le_trans hl (by decide)
  · rw [tl_joinE]
    exact q
theorem r_strI {n : Nat} (h : n < 2 ^ 1900) (q : Q (.str (S (TL.numL n))) H) : rStrI [.int (n : Int)] H Q :=
  ⟨(n : Int), rfl, by rw [Int.natAbs_natCast]; exact Nat.lt_of_lt_of_le (PySem.Flt.log2_lt_of (by decide) h) (by decide), by rw [num_S]; exact q⟩
theorem r_intS {l : List Nat} (h : l.all (fun c => decide (48 ≤ c) && decide (c ≤ 57)) = true) (hne : l ≠ []) (hl : l.length ≤ 640) (q : Q (.int ((NumText.digitsVal l : Nat) : Int)) H) : rIntS [.str (S l)] H Q :=
  ⟨S l, _, rfl, int_S h hne (by omega), by rw [S_len]; exact hl, q⟩
theorem r_divmod {n m : Nat} (h0 : 0 < m) (h1 : m < 2 ^ 8000) (q : ∀ p H', H p = none → H' p = some (.tup [.int ((n / m : Nat) : Int), .int ((n % m : Nat) : Int)]) → Same H H' → Q (.ref p) H') : rDivmod [.int (n : Int), .int (m : Int)] H Q :=
  ⟨n, m, rfl, ⟨by omega, PyProof.noPylong_of_log2 (by rw [Int.natAbs_natCast]; exact Nat.lt_of_lt_of_le (PySem.Flt.log2_lt_of (by decide) h1) (by decide))⟩, fun p hp => by
    have e1 : ((n : Int) / (m : Int)) = ((n / m : Nat) : Int) := by exact_mod_cast rfl
    have e2 : ((n : Int) % (m : Int)) = ((n % m : Nat) : Int) := by exact_mod_cast rfl
    rw [e1, e2]
    exact q p _ hp upd_same (same_new hp)⟩
theorem r_inSign {l : List Nat} (q : Q (.bl (decide (c ∈ l))) H) : rInSign (.str (S [c])) (.str (S l)) H Q := ⟨c, S l, rfl, rfl, q⟩
theorem r_iStr {R : It → Hp → Prop} (h : te σ H fun v H1 => ∃ x, v = .str x ∧ R (Its x) H1) : iStr te σ H R := h
theorem r_exStr {R : Str → Prop} {x : Str} (h : R x) : ∃ z, V.str x = .str z ∧ R z := ⟨x, rfl, h⟩
theorem for_str {l : List Nat} {g : TG} {tb : TS} {D : Ends} (Pv : Nat → L2.St → Hp → Prop) (h0 : Pv 0 σ H)
    (hs : ∀ i c σ H, l[i]? = some c → Pv i σ H → g (.str (S [c])) σ H fun σ2 H2 => tb { D with nx := Pv (i + 1), ct := Pv (i + 1), bk := D.nx } σ2 H2) (hd : ∀ σ H, Pv l.length σ H → D.nx σ H) :
    ∃ W : Nat → Nat → L2.St → Hp → Prop, (∃ m, W 0 m σ H) ∧ ∀ i m σ H, W i m σ H →
      ((Its (S l)).stop i H ∧ D.nx σ H) ∨ ((Its (S l)).go i H ∧ ∃ N : L2.St → Hp → Prop, (∀ σ' H', N σ' H' → ∃ m', m' < m ∧ W (i + 1) m' σ' H') ∧ ∀ x H', (Its (S l)).yld i H x H' → g x σ H' fun σ2 H2 => tb { D with nx := N, ct := N, bk := D.nx } σ2 H2) := by
  have es : (S l).cps.size = l.length := by simp [S]
  refine ⟨fun i m σ H => m = l.length - i ∧ i ≤ l.length ∧ Pv i σ H, ⟨l.length, by simp, Nat.zero_le _, h0⟩, ?_⟩
  rintro i m σ H ⟨rfl, hi, p⟩
  by_cases hlt : i < l.length
  · refine .inr ⟨by show i < _; rw [es]; exact hlt, Pv (i + 1), fun σ' H' p' => ⟨l.length - (i + 1), by omega, rfl, hlt, p'⟩, fun x H' y => ?_⟩
    obtain ⟨e, c, hc, rfl⟩ := y
    subst e
    have hc' : l[i]? = some c := by
      have : (S l).cps[i]? = l[i]? := by simp [S]
      rw [← this]
      exact hc
    exact hs i c σ H' hc' p
  · have e : i = l.length := by omega
    subst e
    exact .inl ⟨by show _ ≤ _; rw [es]; exact Nat.le_refl _, hd σ H p⟩
theorem cutS_to (l : List Nat) (k : Nat) : cutS (S l) none (some (k : Int)) = S (l.take k) := by
  unfold cutS
  rw [HT.sIx_none, HT.sIx_nat, S_len]
  show S ((l.drop 0).take (min k l.length - 0)) = _
  rw [List.drop_zero, Nat.sub_zero]
  congr 1
  rcases Nat.le_total k l.length with h | h
  · rw [Nat.min_eq_left h]
  · rw [Nat.min_eq_right h, List.take_of_length_le (Nat.le_refl _), List.take_of_length_le h]
theorem cutS_from (l : List Nat) (k : Nat) : cutS (S l) (some (k : Int)) none = S (l.drop k) := by
  unfold cutS
  rw [HT.sIx_none, HT.sIx_nat, S_len]
  show S ((l.drop (min k l.length)).take (l.length - min k l.length)) = _
  rcases Nat.le_total k l.length with h | h
  · rw [Nat.min_eq_left h, List.take_of_length_le (by rw [List.length_drop]; exact Nat.le_refl _)]
  · rw [Nat.min_eq_right h, List.drop_of_length_le (Nat.le_refl _), List.drop_of_length_le h, List.take_nil]
theorem r_slS_to {l : List Nat} {k : Nat} (h : l.length ≤ 100000) (q : Q (.str (S (l.take k))) H) : rSlS (.str (S l)) none (some (k : Int)) H Q := ⟨S l, rfl, by rw [S_len]; exact Nat.le_trans h (by decide), by rw [cutS_to]; exact q⟩
theorem r_slS_from {l : List Nat} {k : Nat} (h : l.length ≤ 100000) (q : Q (.str (S (l.drop k))) H) : rSlS (.str (S l)) (some (k : Int)) none H Q := ⟨S l, rfl, by rw [S_len]; exact Nat.le_trans h (by decide), by rw [cutS_from]; exact q⟩
def RevC (K : PySem.W.Frag) (Q : VK) (x : V) (H1 : Hp) : Prop := ∃ a xs, x = .ref a ∧ SqL K H1 a xs ∧ ∀ p, H1 p = none → Q (.ref p) (upd H1 p (.lst xs.reverse))
theorem r_revL (h : te σ H fun x H1 => RevC K Q x H1) : tRevL K te σ H Q := h
theorem revC {p : Addr} {xs : List V} (h : SqL K H p xs) (q : NewC Q xs.reverse H) : RevC K Q (.ref p) H := ⟨p, xs, rfl, h, q⟩
theorem r_iteS {A B : Prop} (h1 : a = b → A) (h2 : a ≠ b → B) : if decide (V.str (S a) = V.str (S b)) = true then A else B := r_ite (fun e => h1 (S_inj (V.str.inj e))) (fun e => h2 fun z => e (by rw [z]))
theorem r_iteNS {A B : Prop} (h1 : a ≠ b → A) (h2 : a = b → B) : if (!decide (V.str (S a) = V.str (S b))) = true then A else B := r_iteN (fun e => h1 fun z => e (by rw [z])) (fun e => h2 (S_inj (V.str.inj e)))
theorem r_eqSS (q : Q (.bl (decide (V.str (S a) = V.str (S b)))) H) : rEq (.str (S a)) (.str (S b)) H Q := ⟨rfl, q⟩
theorem r_neSS (q : Q (.bl (!decide (V.str (S a) = V.str (S b)))) H) : rNe (.str (S a)) (.str (S b)) H Q := ⟨rfl, q⟩
end
/-! ### figures -/
open TL
def fixd : Nat → Nat → List Nat
  | 0, _ => []
  | k + 1, r => fixd k (r / 10) ++ [48 + r % 10]
theorem fixd_zero : ∀ k, fixd k 0 = List.replicate k 48
  | 0 => rfl
  | k + 1 => by
    show fixd k (0 / 10) ++ [48 + 0 % 10] = _
    rw [Nat.zero_div, fixd_zero k, Nat.zero_mod, List.replicate_succ']
theorem num_split : ∀ (k q r : Nat), 0 < q → r < 10 ^ k → numL (q * 10 ^ k + r) = numL q ++ fixd k r
  | 0, q, r, hq, hr => by
    have : r = 0 := by simpa using hr
    subst this
    simp [fixd]
  | k + 1, q, r, hq, hr => by
    have h1 : 10 ≤ q * 10 ^ (k + 1) + r := by
      have : 10 ^ 1 ≤ 10 ^ (k + 1) := Nat.pow_le_pow_right (by decide) (by omega)
      have : 1 * 10 ^ (k + 1) ≤ q * 10 ^ (k + 1) := Nat.mul_le_mul_right _ hq
      omega
    have e0 : q * 10 ^ (k + 1) + r = (q * 10 ^ k) * 10 + r := by rw [Nat.pow_succ, Nat.mul_assoc]
    have e1 : (q * 10 ^ (k + 1) + r) / 10 = q * 10 ^ k + r / 10 := by omega
    have e2 : (q * 10 ^ (k + 1) + r) % 10 = r % 10 := by omega
    rw [numL_step h1, e1, e2, num_split k q (r / 10) hq (by rw [Nat.pow_succ] at hr; omega), List.append_assoc]
    rfl
theorem fixd_pad : ∀ (k r : Nat), r < 10 ^ (k + 1) → fixd (k + 1) r = List.replicate (k + 1 - (numL r).length) 48 ++ numL r
  | k, r, hr => by
    induction k generalizing r with
    | zero =>
      rw [numL_lt (by simpa using hr)]
      show fixd 0 (r / 10) ++ [48 + r % 10] = _
      rw [Nat.mod_eq_of_lt (by simpa using hr)]
      rfl
    | succ k ih =>
      by_cases h : r < 10
      · rw [numL_lt h]
        show fixd (k + 1) (r / 10) ++ [48 + r % 10] = _
        rw [Nat.div_eq_of_lt h, fixd_zero, Nat.mod_eq_of_lt h]
        rfl
      · rw [numL_step (by omega)]
        show fixd (k + 1) (r / 10) ++ [48 + r % 10] = _
        rw [ih (r / 10) (by rw [Nat.pow_succ] at hr; omega), List.length_append, List.append_assoc]
        congr 2
        show k + 1 - _ = k + 1 + 1 - (_ + 1)
        omega
theorem numL_len_le {n k : Nat} (h : n < 10 ^ (k + 1)) : (numL n).length ≤ k + 1 := numL_len (Nat.succ_pos k) h
theorem zfill_num {n k : Nat} (h : n < 10 ^ (k + 1)) : Txt.zfill (S (numL n)) ((k + 1 : Nat) : Int) = S (fixd (k + 1) n) := by
  rw [fixd_pad k n h]
  unfold Txt.zfill
  have hl := numL_len_le h
  rw [S_len]
  by_cases h1 : ((k + 1 : Nat) : Int) ≤ ((numL n).length : Int)
  · rw [if_pos h1]
    have : k + 1 - (numL n).length = 0 := by omega
    rw [this]
    rfl
  · rw [if_neg h1]
    have hd := numL_digits n
    have hz : ∀ m, zfilled (S (numL n)) m = Builtin.Str.padded (S (numL n)) m 0 48 := by
      intro m
      unfold zfilled
      have hne := numL_ne n
      cases e : numL n with
      | nil => exact absurd e hne
      | cons c r =>
        have hc := hd c (by rw [e]; exact List.mem_cons_self ..)
        have : (S (c :: r)).cps[0]? = some c := by simp [S]
        rw [this]
        split
        · rename_i z
          have := Option.some.inj z
          omega
        · rename_i z
          have := Option.some.inj z
          omega
        · rfl
    rw [hz]
    refine ext_tl ?_
    show (Builtin.Str.padded _ _ _ _).cps.toList = _
    rw [PyProof.Rows.padded_list]
    show List.replicate _ 48 ++ numL n ++ List.replicate 0 48 = List.replicate _ 48 ++ numL n
    rw [Int.toNat_natCast, List.replicate_zero, List.append_nil]
end Pw

namespace Pw
open PySem PySem.Spec PyProof.Rows L2 SX
/-! promises of the program's roots -/
def spTaken : Sp := fun vs H Q _ => ∃ (b e a : Nat), vs = [.int (b : Int), .int (e : Int)] ∧ b < 2 ^ a ∧ a * e ≤ 1000000 ∧ e < 2 ^ 60 ∧ Q (.int ((b ^ e : Nat) : Int)) H
theorem bits_lt (n : Nat) : n < 2 ^ Builtin.Int.intBits (n : Int) := by
  unfold Builtin.Int.intBits
  by_cases h : (n : Int) == 0
  · rw [if_pos h]
    have : n = 0 := by simpa using h
    rw [this]
    decide
  · rw [if_neg h, Int.natAbs_natCast]
    exact Nat.lt_log2_self
theorem bits_le {n m : Nat} (h : n < 2 ^ m) : Builtin.Int.intBits (n : Int) ≤ m := PyProof.Rows.intBits_le (by rw [Int.natAbs_natCast]; exact h)
theorem bits_ge {n : Nat} (h : 0 < n) : 2 ^ (Builtin.Int.intBits (n : Int) - 1) ≤ n ∧ 0 < Builtin.Int.intBits (n : Int) := by
  unfold Builtin.Int.intBits
  rw [if_neg (by simp; omega), Int.natAbs_natCast]
  exact ⟨Nat.log2_self_le (by omega), Nat.succ_pos _⟩
theorem cast_lt {b a : Nat} (h : b < 2 ^ a) : ((b : Nat) : Int).natAbs < 2 ^ a := by rw [Int.natAbs_natCast]; exact h
theorem mulx_nat {n m : Nat} (a b : Nat) (ha : n ≤ 2 ^ a) (hb : m ≤ 2 ^ b) (h : a + b ≤ 100000000) : CMulX (n : Int) (m : Int) :=
  mulx_ok (a := a + 1) (b := b + 1) (cast_lt (Nat.lt_of_le_of_lt ha (Nat.pow_lt_pow_right (by decide) (Nat.lt_succ_self a)))) (cast_lt (Nat.lt_of_le_of_lt hb (Nat.pow_lt_pow_right (by decide) (Nat.lt_succ_self b)))) (by omega)
theorem mulx_pows {b e a q q' : Nat} (hb : b < 2 ^ a) (hae : a * e ≤ 1000000) (h : q ≤ e) (h' : q' ≤ e) : CMulX ((b ^ q : Nat) : Int) ((b ^ q' : Nat) : Int) :=
  mulx_nat (a * e) (a * e) (Pm.pow_bound hb h) (Pm.pow_bound hb h') (by omega)
theorem pow_at {b e p : Nat} : b ^ (e / 2 ^ p) = (if (e / 2 ^ p) % 2 = 1 then b ^ (e / 2 ^ (p + 1)) * b ^ (e / 2 ^ (p + 1)) * b else b ^ (e / 2 ^ (p + 1)) * b ^ (e / 2 ^ (p + 1))) := Pm.pow_bit b e p
theorem mono_vv {g : Int → Int → V} {a b : Nat} (σ : L2.St) (H : Hp) (R R' : Bool → Hp → Prop) (h : ∀ c H1, R c H1 → R' c H1) (x : tTest (tOp (rI0 g) (tVar a) (tVar b)) σ H R) : tTest (tOp (rI0 g) (tVar a) (tVar b)) σ H R' := by
  obtain ⟨v, hv, w, hw, i, j, e1, e2, k, ek, r⟩ := x
  exact ⟨v, hv, w, hw, i, j, e1, e2, k, ek, h _ _ r⟩
def spStep : Sp := fun vs H Q _ => ∃ (n m x s : Nat), vs = [.int (n : Int), .int ((m + 1 : Nat) : Int), .int (x : Int)] ∧ 0 < x ∧ x ≤ 2 ^ s ∧ s * m ≤ 8900 ∧ m ≤ 8000 ∧ s ≤ 8900 ∧ Q (.int (Pm.step n m x : Nat)) H
def spRoot : Sp := fun vs H Q _ => ∃ (n e : Nat), vs = [.int (n : Int), .int (e : Int)] ∧ 0 < e ∧ e ≤ 4000 ∧ n < 2 ^ 4000 ∧ ∀ r : Nat, Pm.IsRoot n e r → Q (.int (r : Int)) H
def spRootOf : Sp := fun vs H Q _ => ∃ (n e : Nat), vs = [.int (n : Int), .int (e : Int)] ∧ 0 < e ∧ e ≤ 200 ∧ n < 2 ^ 4000 ∧
  ∀ (r : Nat) (p : Addr) (H' : Hp), Pm.IsRoot n e r → H p = none → Same H H' → H' p = some (.tup [.int (r : Int), .int ((n : Int) - ((r ^ e : Nat) : Int))]) → Q (.ref p) H'
theorem root_start {n e L : Nat} (hn : 0 < n) (he : 0 < e) (h1 : n < 2 ^ L) : n < (2 ^ ((L - 1) / e + 1) + 1) ^ e := by
  refine Nat.lt_of_lt_of_le h1 ?_
  refine Nat.le_trans ?_ (Nat.pow_le_pow_left (Nat.le_succ _) e)
  rw [← Nat.pow_mul]
  refine Nat.pow_le_pow_right (by decide) ?_
  have := Nat.lt_mul_div_succ (L - 1) he
  rw [Nat.mul_comm]
  have e2 : e * ((L - 1) / e).succ = e * ((L - 1) / e + 1) := rfl
  omega
theorem s_bound {L e s : Nat} (he : 0 < e) (hs : s = (L - 1) / e + 1) : s * (e - 1) ≤ L + e := by
  have h := Nat.div_mul_le_self (L - 1) e
  subst hs
  have h2 : (L - 1) / e * (e - 1) ≤ (L - 1) / e * e := Nat.mul_le_mul_left _ (by omega)
  rw [Nat.succ_mul]
  omega
theorem root_done {n m x : Nat} (hx : 0 < x) (h1 : n < (x + 1) ^ (m + 1)) (h2 : ¬ Pm.step n m x < x) : Pm.IsRoot n (m + 1) x :=
  ⟨Nat.le_of_not_lt fun z => h2 (Pm.step_down z), h1⟩
theorem step_pos {n m x : Nat} (hn : 0 < n) (hx : 0 < x) : 0 < Pm.step n m x := by
  have := Pm.step_up (n := n) (m := m) hx
  rcases Nat.eq_zero_or_pos (Pm.step n m x) with z | z
  · rw [z, Nat.zero_add, Nat.one_pow] at this
    omega
  · exact z
def meas (σ : L2.St) : Nat := match σ with
  | [_, _, _, some (.int x), _] => x.toNat
  | _ => 0
def spLaw (K : PySem.W.Frag) : Sp := fun vs H Q _ => ∃ (a : Addr) (ns : List Int), vs = [.ref a] ∧ SqL K H a (ns.map V.int) ∧ ns.length ≤ 63 ∧ ∀ H', Q (.bl true) H'
def PairOk (a e : Int) : Prop := 0 ≤ a ∧ a ≤ 10 ^ 40 ∧ 1 ≤ e ∧ e ≤ 200
theorem small40 {a : Int} (h0 : 0 ≤ a) (h : a ≤ 10 ^ 40) : ∃ n : Nat, a = n ∧ n < 2 ^ 140 ∧ n ≤ 10 ^ 40 := by
  refine ⟨a.toNat, by omega, ?_, ?_⟩
  · have e : ((10 : Int) ^ 40) < 2 ^ 140 := by decide
    have e2 : ((2 : Int) ^ 140).toNat = 2 ^ 140 := by decide
    omega
  · have e2 : ((10 : Int) ^ 40).toNat = 10 ^ 40 := by decide
    omega
theorem root_le {n e r : Nat} (he : 0 < e) (h : Pm.IsRoot n e r) : r ≤ n := by
  refine Nat.le_trans ?_ h.1
  rcases Nat.eq_zero_or_pos r with z | z
  · rw [z]; exact Nat.zero_le _
  · exact Nat.le_self_pow (by omega) r
end Pw

namespace Pw
open PySem PySem.Spec PyProof.Rows L2 SX TL
theorem lit_e : Str.ofString "" = S [] := by decide +kernel
theorem lit_fig : Str.ofString "0123456789" = S [48, 49, 50, 51, 52, 53, 54, 55, 56, 57] := by decide +kernel
theorem lit_0 : Str.ofString "0" = S [48] := by decide +kernel
theorem lit_hat : Str.ofString "^" = S [94] := by decide +kernel
theorem lit_00 : Str.ofString "0^0" = S [48, 94, 48] := by decide +kernel
theorem lit_210 : Str.ofString "2^10" = S [50, 94, 49, 48] := by decide +kernel
def figs : List Nat := [48, 49, 50, 51, 52, 53, 54, 55, 56, 57]
def dgt (c : Nat) : Bool := decide (48 ≤ c) && decide (c ≤ 57)
theorem dgt_iff {c : Nat} : dgt c = true ↔ 48 ≤ c ∧ c ≤ 57 := by simp [dgt]
theorem mem_figs {c : Nat} : c ∈ [48, 49, 50, 51, 52, 53, 54, 55, 56, 57] ↔ dgt c = true := by
  rw [dgt_iff]
  simp only [List.mem_cons, List.not_mem_nil, or_false]
  omega
theorem digit_at {d : Nat} (h : d < 10) : atI [48, 49, 50, 51, 52, 53, 54, 55, 56, 57] (d : Int) = some (48 + d) := by
  refine atI_nat ?_
  have : d = 0 ∨ d = 1 ∨ d = 2 ∨ d = 3 ∨ d = 4 ∨ d = 5 ∨ d = 6 ∨ d = 7 ∨ d = 8 ∨ d = 9 := by omega
  rcases this with rfl | rfl | rfl | rfl | rfl | rfl | rfl | rfl | rfl | rfl <;> rfl
theorem same_updNew {H H' : Hp} {l : Addr} {o : HO} (s : Same H H') (h : H l = none) : Same H (upd H' l o) := fun b x hb => by rw [upd_ne (ne_of_none hb h)]; exact s b x hb
theorem fixd_len : ∀ k r : Nat, (fixd k r).length = k
  | 0, _ => rfl
  | k + 1, r => by
    show (fixd k (r / 10) ++ [48 + r % 10]).length = k + 1
    rw [List.length_append, fixd_len k]
    rfl
theorem digitsVal_snoc (l : List Nat) (c : Nat) : NumText.digitsVal (l ++ [c]) = NumText.digitsVal l * 10 + (c - 48) := by
  unfold NumText.digitsVal
  rw [List.foldl_append]
  rfl
theorem fold_lt : ∀ (l : List Nat) (a k : Nat), NumText.AllDigits l → a < 10 ^ k → l.foldl (fun acc c => acc * 10 + (c - 48)) a < 10 ^ (k + l.length)
  | [], a, k, _, h => h
  | c :: r, a, k, hd, h => by
    have hc := hd.head
    have := fold_lt r (a * 10 + (c - 48)) (k + 1) hd.tail (by rw [Nat.pow_succ]; omega)
    rw [List.foldl_cons, List.length_cons]
    rw [show k + (r.length + 1) = k + 1 + r.length by omega]
    exact this
theorem digitsVal_lt {l : List Nat} (h : NumText.AllDigits l) : NumText.digitsVal l < 10 ^ l.length := by
  have := fold_lt l 0 0 h (by decide)
  rw [Nat.zero_add] at this
  exact this
theorem numL_head : ∀ (n : Nat), 0 < n → ∀ c r, numL n = c :: r → c ≠ 48
  | n, hn, c, r, e => by
    by_cases h : n < 10
    · rw [numL_lt h] at e
      cases e
      omega
    · rw [numL_step (by omega)] at e
      cases e2 : numL (n / 10) with
      | nil => exact absurd e2 (numL_ne _)
      | cons c' r' =>
        rw [e2] at e
        cases e
        exact numL_head (n / 10) (by omega) _ _ e2
termination_by n => n
decreasing_by omega
theorem numL_dgt (n : Nat) : ∀ c ∈ numL n, dgt c = true := fun c hc => dgt_iff.mpr (numL_digits n c hc)
theorem takeW_all {l r : List Nat} (h : ∀ c ∈ l, dgt c = true) (h2 : ∀ c s, r = c :: s → dgt c = false) : (l ++ r).takeWhile dgt = l := by
  induction l with
  | nil =>
    cases r with
    | nil => rfl
    | cons c s => rw [List.nil_append, List.takeWhile_cons, h2 c s rfl]; rfl
  | cons c l ih =>
    rw [List.cons_append, List.takeWhile_cons, h c (List.mem_cons_self ..), if_pos rfl, ih fun d hd => h d (List.mem_cons_of_mem _ hd)]
theorem takeW_self {l : List Nat} (h : ∀ c ∈ l, dgt c = true) : l.takeWhile dgt = l := by
  have := takeW_all (r := []) h (fun _ _ z => nomatch z)
  rw [List.append_nil] at this
  exact this
section
variable {X : Cx} {x : Str} {pos : Pos}
theorem pe_globI {i : Int} {tk : Tok} (hg : Gl X x) (hm : X.mg x = some (.int i tk)) (hd : (x == ("__debug__" : Str)) = false := by decide) : PE X (.Name x pos) (tC (.int i)) := pe_glob hg hm ⟨_, rfl⟩ hd
theorem pe_globS {z : Str} {tk : Tok} (hg : Gl X x) (hm : X.mg x = some (.str z tk)) (hd : (x == ("__debug__" : Str)) = false := by decide) : PE X (.Name x pos) (tC (.str z)) := pe_glob hg hm ⟨_, rfl⟩ hd
theorem pe_globR {a : Addr} (hg : Gl X x) (hm : X.mg x = some (.ref a)) (hd : (x == ("__debug__" : Str)) = false := by decide) : PE X (.Name x pos) (tC (.ref a)) := pe_glob hg hm rfl hd
end
/-- where the figures from s on end -/
def runEnd (l : List Nat) (s : Nat) : Nat := s + ((l.drop s).takeWhile dgt).length
theorem tw_len (l : List Nat) : (l.takeWhile dgt).length ≤ l.length := by
  induction l with
  | nil => exact Nat.le_refl _
  | cons c r ih =>
    rw [List.takeWhile_cons]
    split
    · simp; exact ih
    · exact Nat.zero_le _
theorem runEnd_le {l : List Nat} {s : Nat} (h : s ≤ l.length) : runEnd l s ≤ l.length := by
  unfold runEnd
  have := tw_len (l.drop s)
  rw [List.length_drop] at this
  omega
theorem tw_at (l : List Nat) : ∀ k, k < (l.takeWhile dgt).length → ∃ c, l[k]? = some c ∧ dgt c = true := by
  induction l with
  | nil => intro k hk; exact absurd hk (Nat.not_lt_zero _)
  | cons c r ih =>
    intro k hk
    rw [List.takeWhile_cons] at hk
    cases hc : dgt c with
    | false => rw [hc] at hk; exact absurd hk (Nat.not_lt_zero _)
    | true =>
      rw [hc] at hk
      cases k with
      | zero => exact ⟨c, rfl, hc⟩
      | succ k =>
        have := ih k (by simpa using hk)
        simpa using this
theorem tw_end (l : List Nat) : ∀ c, l[(l.takeWhile dgt).length]? = some c → dgt c = false := by
  induction l with
  | nil => intro c hc; exact absurd hc (by simp)
  | cons d r ih =>
    intro c hc
    rw [List.takeWhile_cons] at hc
    cases hd : dgt d with
    | false =>
      rw [hd] at hc
      have : d = c := by simpa using hc
      rw [← this]
      exact hd
    | true =>
      rw [hd] at hc
      exact ih c (by simpa using hc)
theorem run_in {l : List Nat} {s k : Nat} (h1 : s ≤ k) (h2 : k < runEnd l s) : ∃ c, l[k]? = some c ∧ dgt c = true := by
  have := tw_at (l.drop s) (k - s) (by unfold runEnd at h2; omega)
  rw [List.getElem?_drop, show s + (k - s) = k by omega] at this
  exact this
theorem run_out {l : List Nat} {s : Nat} {c : Nat} (h : l[runEnd l s]? = some c) : dgt c = false := by
  refine tw_end (l.drop s) c ?_
  rw [List.getElem?_drop]
  exact h
def spFigEnd : Sp := fun vs H Q _ => ∃ (l : List Nat) (s : Nat), vs = [.str (S l), .int (s : Int)] ∧ l.length ≤ 10000 ∧ s ≤ l.length ∧ runEnd l s ≠ s ∧ ¬ (l[s]? = some 48 ∧ s + 1 < runEnd l s) ∧ Q (.int (runEnd l s : Nat)) H
def spWorth : Sp := fun vs H Q _ => ∃ (l : List Nat), vs = [.str (S l)] ∧ l.length ≤ 10000 ∧ NumText.AllDigits l ∧ Q (.int (NumText.digitsVal l : Nat)) H
/-- what is read of a number's figures, of BASE^EXPONENT -/
def spReadOk : Sp := fun vs H Q _ => ∃ (l : List Nat) (b : Nat), vs = [.str (S l)] ∧ (numL b).length ≤ 5000 ∧ ((l = numL b ∧ Q (.int (b : Nat)) H) ∨ ∃ e : Nat, l = numL b ++ 94 :: numL e ∧ e ≤ 200 ∧ b < 2 ^ 4000 ∧ Q (.int ((b ^ e : Nat) : Int)) H)
def spShown : Sp := fun vs H Q _ => ∃ n : Nat, vs = [.int (n : Int)] ∧ n < 10 ^ 5000 ∧ ∀ H', Same H H' → Q (.str (S (numL n))) H'
def spFigures : Sp := fun vs H Q _ => ∃ n : Nat, vs = [.int (n : Int)] ∧ n < 10 ^ 5000 ∧ Q (.str (S (numL n))) H
def spWhole : Sp := fun vs H Q _ => ∃ a : Int, vs = [.int a, .int a] ∧ Q (.bl true) H
end Pw
namespace Pw
open PySem PySem.Spec PyProof.Rows L2
/-- while by a word and a measure, its test read along (nothing to be shown of the test) -/
def WhileGo (W : L2.St → Hp → Prop) (μ : L2.St → Hp → Nat) (m : Nat) (t : TS) (D : Ends) (σ : L2.St) (H : Hp) : Prop :=
  ∃ N : L2.St → Hp → Prop, (∀ σ' H', N σ' H' → ∃ m', m' < m ∧ (m' = μ σ' H' ∧ W σ' H')) ∧ t { D with nx := N, ct := N, bk := D.nx } σ H
theorem whileGo {W : L2.St → Hp → Prop} {μ : L2.St → Hp → Nat} {m : Nat} {t : TS} {D : Ends} {σ : L2.St} {H : Hp}
    (h : ∀ N : L2.St → Hp → Prop, (∀ σ' H', W σ' H' → μ σ' H' < m → N σ' H') → t { D with nx := N, ct := N, bk := D.nx } σ H) : WhileGo W μ m t D σ H :=
  ⟨fun σ' H' => W σ' H' ∧ μ σ' H' < m, fun σ' H' ⟨a, b⟩ => ⟨μ σ' H', b, rfl, a⟩, h _ fun σ' H' a b => ⟨a, b⟩⟩
theorem r_whl {tt : TT} {t : TS} {D : Ends} {σ : L2.St} {H : Hp} (W : L2.St → Hp → Prop) (μ : L2.St → Hp → Nat) (h0 : W σ H)
    (hs : ∀ σ H, W σ H → tt σ H fun b H1 => if b = true then WhileGo W μ (μ σ H) t D σ H1 else D.nx σ H1) : tWhile tt t D σ H := by
  refine ⟨fun m σ H => m = μ σ H ∧ W σ H, ⟨_, rfl, h0⟩, ?_⟩
  rintro m σ H ⟨rfl, w⟩
  exact hs σ H w
end Pw
namespace Pw
open PySem PySem.Spec PyProof.Rows L2
theorem r_aug {n : Nat} {te : TE} {ti : TIp} {D : Ends} {σ : L2.St} {H : Hp} {x : V} (h : σ[n]? = some (some x)) (q : te σ H fun y H1 => ti x y H1 fun z H2 => D.nx (σ.set n (some z)) H2) : tAug n te ti D σ H := ⟨x, h, q⟩
theorem r_ipI {f : Int → Int → Int} {i j : Int} {H : Hp} {Q : VK} (q : Q (.int (f i j)) H) : ipI f (.int i) (.int j) H Q := ⟨i, j, rfl, rfl, q⟩
end Pw
namespace Pw
open PySem PySem.Spec PyProof.Rows L2 SX TL
theorem fig_ok {l post : List Nat} {s b : Nat} (h : l.drop s = numL b ++ post) (h2 : ∀ c r, post = c :: r → dgt c = false) : runEnd l s = s + (numL b).length ∧ runEnd l s ≠ s ∧ ¬ (l[s]? = some 48 ∧ s + 1 < runEnd l s) := by
  have hne := numL_ne b
  have hpos : 0 < (numL b).length := List.length_pos_iff.mpr hne
  have e : runEnd l s = s + (numL b).length := by
    unfold runEnd
    rw [h, takeW_all (numL_dgt b) h2]
  refine ⟨e, by omega, ?_⟩
  rintro ⟨h0, h1⟩
  rw [e] at h1
  rcases Nat.eq_zero_or_pos b with z | z
  · rw [z, numL_lt (by decide)] at h1
    simp at h1
  · cases e2 : numL b with
    | nil => exact hne e2
    | cons c r =>
      have : l[s]? = some c := by
        have e3 : (l.drop s)[0]? = some c := by
          rw [h, e2]
          rfl
        rw [List.getElem?_drop, Nat.add_zero] at e3
        exact e3
      rw [this] at h0
      exact numL_head b z c r e2 (Option.some.inj h0)
end Pw
namespace Pw
theorem ediv_nat (n m : Nat) : (n : Int) / (m : Int) = ((n / m : Nat) : Int) := by exact_mod_cast rfl
theorem emod_nat (n m : Nat) : (n : Int) % (m : Int) = ((n % m : Nat) : Int) := by exact_mod_cast rfl
end Pw
namespace Pw
open PySem PySem.Spec PyProof.Rows L2 SX TL
/-- a list of tuples -/
structure RowsV (H : Hp) (l : Addr) (ps : List Addr) (R : List V → Prop) : Prop where
  lst : H l = some (.lst (ps.map V.ref))
  row : ∀ p ∈ ps, ∃ xs : List V, H p = some (.tup xs) ∧ R xs
theorem RowsV.same {H H' : Hp} {l : Addr} {ps : List Addr} {R : List V → Prop} (r : RowsV H l ps R) (s : Same H H') : RowsV H' l ps R :=
  ⟨s _ _ r.lst, fun p hp => let ⟨a, h, q⟩ := r.row p hp; ⟨a, s _ _ h, q⟩⟩
theorem RowsV.keep {H H' : Hp} {l d c : Addr} {n : Nat} {ps : List Addr} {R : List V → Prop} (r : RowsV H l ps R) (D : DeckAt H d c n) (hl : l ≠ d) (k : Keep d H H') : RowsV H' l ps R :=
  ⟨k _ _ hl r.lst, fun p hp => let ⟨a, h, q⟩ := r.row p hp; ⟨a, k _ _ (D.tup h) h, q⟩⟩
theorem RowsV.push {H H' : Hp} {l p : Addr} {ps : List Addr} {R : List V → Prop} {xs : List V} (r : RowsV H l ps R) (hp : H p = some (.tup xs)) (hr : R xs) (e : H' = upd H l (.lst (ps.map V.ref ++ [.ref p]))) : RowsV H' l (ps ++ [p]) R := by
  subst e
  refine ⟨by rw [upd_same, List.map_append]; rfl, fun q hq => ?_⟩
  rcases List.mem_append.mp hq with h | h
  · obtain ⟨a', h1, h2⟩ := r.row q h
    exact ⟨a', by rw [upd_ne (ne_of h1 r.lst (by intro z; cases z))]; exact h1, h2⟩
  · have : q = p := by simpa using h
    subst this
    exact ⟨xs, by rw [upd_ne (ne_of hp r.lst (by intro z; cases z))]; exact hp, hr⟩
theorem r_gTup3 {K : PySem.W.Frag} {p : Addr} {a b c : V} {i j k : Nat} {σ : L2.St} {H : Hp} {R : L2.St → Hp → Prop} (h : H p = some (.tup [a, b, c])) (q : R (((σ.set i (some a)).set j (some b)).set k (some c)) H) : gTup K 3 (gCons (gName i) (gCons (gName j) (gCons (gName k) gNil))) (.ref p) σ H R :=
  ⟨p, [a, b, c], rfl, SqT.of h, rfl, a, [b, c], rfl, b, [c], rfl, c, [], rfl, rfl, q⟩
theorem numL_lt_pow (n : Nat) : n < 10 ^ (numL n).length := by
  have h := digitsVal_lt (numL_digits n)
  rw [numL_val] at h
  exact h
end Pw

namespace Pw
open PySem PySem.Spec PyProof.Rows L2 SX TL
theorem r_gUnl2 {K : PySem.W.Frag} {p : Addr} {a b : V} {i j : Nat} {σ : L2.St} {H : Hp} {R : L2.St → Hp → Prop} (h : H p = some (.lst [a, b])) (q : R ((σ.set i (some a)).set j (some b)) H) : gUnl K 2 (gCons (gName i) (gCons (gName j) gNil)) (.ref p) σ H R :=
  ⟨p, [a, b], rfl, SqL.of h, rfl, a, [b], rfl, b, [], rfl, rfl, q⟩
/-- sorted of two -/
theorem r_sorted2 {K : PySem.W.Frag} {p : Addr} {a b : Int} {H : Hp} {Q : VK} (h : SqL K H p [.int a, .int b]) (q : ∀ (x y : Int) (p' : Addr) (H' : Hp), (x = a ∧ y = b ∨ x = b ∧ y = a) → x ≤ y → H p' = none → H' p' = some (.lst [.int x, .int y]) → Same H H' → Q (.ref p') H') : rSorted K [.ref p] H Q := by
  refine ⟨p, [a, b], rfl, h, (by show 2 < 64; decide), fun ns' p' hp hs np => ?_⟩
  have hl := hp.length_eq
  match ns', hl with
  | [x, y], _ =>
    have hx : x = a ∧ y = b ∨ x = b ∧ y = a := by
      have hm : x ∈ [a, b] := hp.mem_iff.mp (List.mem_cons_self ..)
      have h2 := List.perm_cons_erase hm
      simp only [List.mem_cons, List.not_mem_nil, or_false] at hm
      rcases hm with rfl | rfl
      · have := (List.perm_cons x).mp hp
        exact .inl ⟨rfl, by simpa using this⟩
      · have h3 : ([x, y] : List Int).Perm [x, a] := hp.trans (List.Perm.swap ..)
        have := (List.perm_cons x).mp h3
        exact .inr ⟨rfl, by simpa using this⟩
    exact q x y p' _ hx (by simpa using hs) np upd_same (same_new np)
/-! ### roots of roots -/
theorem root_root {n a b r q q' : Nat} (hr : Pm.IsRoot n a r) (hq : Pm.IsRoot r b q) (hq' : Pm.IsRoot n (a * b) q') : q = q' := by
  refine Pm.IsRoot.uniq (n := n) (k := a * b) ⟨?_, ?_⟩ hq'
  · rw [Nat.mul_comm, Nat.pow_mul]
    exact Nat.le_trans (Nat.pow_le_pow_left hq.1 a) hr.1
  · rw [Nat.mul_comm, Nat.pow_mul]
    exact Nat.lt_of_lt_of_le hr.2 (Nat.pow_le_pow_left hq.2 a)
theorem root_mono {n m k r s : Nat} (h : n ≤ m) (hr : Pm.IsRoot n k r) (hs : Pm.IsRoot m k s) : r ≤ s := by
  have := Pm.lt_of_pow_lt (Nat.lt_of_le_of_lt (Nat.le_trans hr.1 h) hs.2)
  omega
theorem root_times {n a b r s : Nat} (hr : Pm.IsRoot n a r) (hs : Pm.IsRoot (n * b ^ a) a s) : r * b ≤ s := by
  have h1 : (r * b) ^ a ≤ n * b ^ a := by
    rw [Nat.mul_pow]
    exact Nat.mul_le_mul_right _ hr.1
  have := Pm.lt_of_pow_lt (Nat.lt_of_le_of_lt h1 hs.2)
  omega
theorem root_pow {b k : Nat} (hk : 0 < k) : Pm.IsRoot (b ^ k) k b := ⟨Nat.le_refl _, Pm.pow_lt_of_lt (Nat.lt_succ_self b) hk⟩
theorem root_pred {b k : Nat} (hk : 0 < k) (hb : 0 < b) : Pm.IsRoot (b ^ k - 1) k (b - 1) := by
  have h1 := Pm.pow_lt_of_lt (show b - 1 < b by omega) hk
  have e : b - 1 + 1 = b := by omega
  refine ⟨by omega, ?_⟩
  rw [e]
  have : 0 < b ^ k := Nat.pow_pos hb
  omega
theorem root_one (n : Nat) : Pm.IsRoot n 1 n := ⟨by rw [Nat.pow_one]; exact Nat.le_refl _, by rw [Nat.pow_one]; exact Nat.lt_succ_self _⟩
theorem r_ixT0 {K : PySem.W.Frag} {p : Addr} {a b : V} {H : Hp} {Q : VK} (h : H p = some (.tup [a, b])) (q : Q a H) : rIxT K (.ref p) (.int 0) H Q := r_ixT (SqT.of h) rfl q
def spTakenR : Sp := fun vs H Q _ => ∃ (d c : Addr) (n b : Nat), vs = [.ref d, .int (b : Int)] ∧ b ≤ 10 ^ 40 ∧ DeckAt H d c n ∧ n ≤ 2 ^ 40 ∧ ∀ H', Keep d H H' → DeckAt H' d c (n + 2) → Q (.bl true) H'
def spRootsR : Sp := fun vs H Q _ => ∃ (d c : Addr) (n a b : Nat), vs = [.ref d, .int (a : Int), .int (b : Int)] ∧ a ≤ 10 ^ 40 ∧ b ≤ 10 ^ 40 ∧ DeckAt H d c n ∧ n ≤ 2 ^ 40 ∧ ∀ H', Keep d H H' → DeckAt H' d c (n + 3) → Q (.bl true) H'
end Pw

namespace Pw
open PySem PySem.Spec PyProof.Rows L2 SX TL
theorem r_rng2 {tr : TA} {σ : L2.St} {H : Hp} {R : It → Hp → Prop} (h : tr σ H fun vs H1 => ∃ i j : Int, vs = [.int i, .int j] ∧ (-(2 ^ 62) ≤ i ∧ i < 2 ^ 62 ∧ -(2 ^ 62) ≤ j ∧ j < 2 ^ 62) ∧ R (Itr i (j - i).toNat) H1) : iRng2 tr σ H R := h
theorem r_ex2 {i j : Int} {R : Int → Int → Prop} (h : R i j) : ∃ a b, [V.int i, V.int j] = [.int a, .int b] ∧ R a b := ⟨i, j, rfl, h⟩
def spIsPrime : Sp := fun vs H Q _ => ∃ n : Nat, vs = [.int (n : Int)] ∧ 2 ≤ n ∧ n ≤ 2 ^ 60 ∧ ∀ b : Bool, (b = true ↔ Pm.Prime n) → Q (.bl b) H
def spNextPrime : Sp := fun vs H Q _ => ∃ n : Nat, vs = [.int (n : Int)] ∧ 2 ≤ n ∧ n ≤ 210 ∧ ∀ p : Nat, n < p → p ≤ 211 → Pm.Prime p → (∀ q, Pm.Prime q → n < q → p ≤ q) → Q (.int (p : Int)) H
/-- base and greatest exponent -/
def GW (n b g : Nat) : Prop := (n = 0 ∧ b = 0 ∧ g = 1) ∨ (n = 1 ∧ b = 1 ∧ g = 2) ∨ (2 ≤ b ∧ Pm.NotPow b ∧ 1 ≤ g ∧ b ^ g = n)
def spGreatest : Sp := fun vs H Q _ => ∃ n : Nat, vs = [.int (n : Int)] ∧ n < 2 ^ 190 ∧ ∀ (b g : Nat) (p : Addr) (H' : Hp), GW n b g → H p = none → Same H H' → H' p = some (.tup [.int (b : Int), .int (g : Int)]) → Q (.ref p) H'
theorem prime211 : Pm.Prime 211 := Pm.prime_of_trial (by decide) fun d h2 h3 h4 => by
  have hd : d < 15 := by
    refine Nat.lt_of_not_le fun h => ?_
    have := Nat.mul_le_mul h h
    omega
  have : ∀ d, d < 15 → 2 ≤ d → ¬ d ∣ 211 := by decide
  exact this d hd h2 h4
end Pw
namespace Pw
theorem prime2 : Pm.Prime 2 := Pm.prime_of_trial (by decide) fun d h2 h3 h4 => by
  have := Nat.mul_le_mul h2 h2
  omega
end Pw
namespace Pw
open PySem PySem.Spec PyProof.Rows L2 SX TL
theorem r_rng3 {tr : TA} {σ : L2.St} {H : Hp} {R : It → Hp → Prop} (h : tr σ H fun vs H1 => ∃ (i j c : Int) (n : Nat), vs = [.int i, .int j, .int c] ∧ RgC i j c n ∧ R (Itc i c n) H1) : iRng3 tr σ H R := h
theorem r_shlN {H : Hp} {Q : VK} {i j : Int} (n k : Nat) (a : Nat) (hi : i = (n : Int)) (hj : j = (k : Int)) (ha : n < 2 ^ a) (hk : a + k ≤ 100000) (q : Q (.int ((n * 2 ^ k : Nat) : Int)) H) : rI CShl (fun i j => V.int (i * 2 ^ j.toNat)) (.int i) (.int j) H Q := by
  subst hi
  subst hj
  refine r_I (shl_ok (n := a) (by rw [Int.natAbs_natCast]; exact ha) (by omega)) ?_
  rw [Int.toNat_natCast]
  have e : ((n : Int) * 2 ^ k) = ((n * 2 ^ k : Nat) : Int) := by push_cast; rfl
  rw [e]
  exact q
def spLawRoot : Sp := fun vs H Q _ => ∃ n e : Nat, vs = [.int (n : Int), .int (e : Int)] ∧ n < 2 ^ 140 ∧ 1 ≤ e ∧ e ≤ 140 ∧ ∀ r : Nat, Pm.IsRoot n e r → Q (.int (r : Int)) H
def spLawDue : Sp := fun vs H Q _ => ∃ n : Nat, vs = [.int (n : Int)] ∧ n < 2 ^ 133 ∧ ∀ (b g : Nat) (p : Addr) (H' : Hp), GW n b g → H p = none → Same H H' → H' p = some (.tup [.int (b : Int), .int (g : Int)]) → Q (.ref p) H'
theorem GW.uniq {n b g b' g' : Nat} (h : GW n b g) (h' : GW n b' g') : b = b' ∧ g = g' := by
  rcases h with ⟨rfl, rfl, rfl⟩ | ⟨rfl, rfl, rfl⟩ | ⟨b2, np, g1, e⟩
  · rcases h' with ⟨_, rfl, rfl⟩ | ⟨z, _⟩ | ⟨b2, _, _, e⟩
    · exact ⟨rfl, rfl⟩
    · omega
    · have := Nat.pow_pos (n := g') (show 0 < b' by omega)
      omega
  · rcases h' with ⟨z, _⟩ | ⟨_, rfl, rfl⟩ | ⟨b2, _, g1, e⟩
    · omega
    · exact ⟨rfl, rfl⟩
    · have := Nat.one_lt_pow (show g' ≠ 0 by omega) (show 1 < b' by omega)
      omega
  · rcases h' with ⟨rfl, _, _⟩ | ⟨rfl, _, _⟩ | ⟨b2', np', g1', e'⟩
    · have := Nat.pow_pos (n := g) (show 0 < b by omega)
      omega
    · have := Nat.one_lt_pow (show g ≠ 0 by omega) (show 1 < b by omega)
      omega
    · obtain ⟨d1, e1⟩ := Pm.ways_of_pow b2 np g1 g1' (x := b') (k := g') (by rw [e, e'])
      obtain ⟨d2, e2⟩ := Pm.ways_of_pow b2' np' g1' g1 (x := b) (k := g) (by rw [e, e'])
      have hg : g = g' := Nat.dvd_antisymm d2 d1
      subst hg
      rw [Nat.div_self (by omega), Nat.pow_one] at e1
      exact ⟨e1.symm, rfl⟩
theorem pow_base2 {c e n : Nat} (he : 1 ≤ e) (hn : 2 ≤ n) (h : c ^ e = n) : 2 ≤ c := by
  refine Nat.le_of_not_lt fun z => ?_
  have : c = 0 ∨ c = 1 := by omega
  rcases this with rfl | rfl
  · rw [Nat.zero_pow (by omega)] at h
    omega
  · rw [Nat.one_pow] at h
    omega
end Pw
namespace Pw
open PySem PySem.Spec PyProof.Rows L2 SX TL
theorem r_yes {σ : L2.St} {H : Hp} {R : Bool → Hp → Prop} (h : R true H) : tYes σ H R := h
/-- pairs of a base and its greatest exponent, beside the numbers -/
structure Dues (H : Hp) (D : Addr) (xs : List Nat) (m : Nat) : Prop where
  ex : ∃ ps : List Addr, H D = some (.lst (ps.map V.ref)) ∧ ps.length = m ∧ ∀ (i n : Nat) (p : Addr), xs[i]? = some n → ps[i]? = some p → ∃ b g : Nat, GW n b g ∧ H p = some (.tup [.int (b : Int), .int (g : Int)])
theorem Dues.same {H H' : Hp} {D : Addr} {xs : List Nat} {m : Nat} (d : Dues H D xs m) (s : Same H H') : Dues H' D xs m := by
  obtain ⟨ps, h1, h2, h3⟩ := d.ex
  exact ⟨ps, s _ _ h1, h2, fun i n p a b => let ⟨x, g, h4, h5⟩ := h3 i n p a b; ⟨x, g, h4, s _ _ h5⟩⟩
end Pw
namespace Pw
theorem notPow_ten : Pm.NotPow 10 := fun c k hk e => by
  have c2 : 2 ≤ c := pow_base2 (by omega) (by decide) e
  have h1 : c ^ 2 ≤ c ^ k := Nat.pow_le_pow_right (by omega) hk
  have c3 : c < 4 := by
    refine Nat.lt_of_not_le fun h => ?_
    have := Nat.pow_le_pow_left h 2
    omega
  have hk4 : k < 4 := by
    refine Nat.lt_of_not_le fun h => ?_
    have h2 := Nat.pow_le_pow_left c2 k
    have h3 : (2 : Nat) ^ 4 ≤ 2 ^ k := Nat.pow_le_pow_right (by decide) h
    omega
  have hc : c = 2 ∨ c = 3 := by omega
  have hkk : k = 2 ∨ k = 3 := by omega
  rcases hc with rfl | rfl <;> rcases hkk with rfl | rfl <;> exact absurd e (by decide)
theorem gw_ten : GW 10000000000000000000000000000000000000000 10 40 := .inr (.inr ⟨by decide, notPow_ten, by decide, by decide⟩)
end Pw

namespace Pw
open PySem PySem.Spec PyProof.Rows L2 SX TL
/-! ### x in t, t a tuple of data -/
def rInDT (K : PySem.W.Frag) : R2 := fun x y H Q => ∃ d ds, Dp K H x d ∧ Dp K H y (.tuple ds) ∧ SeqAt.shaped d = true ∧ SeqAt.shaped (.tuple ds) = true ∧ Q (.bl (ds.any fun z => PyData.eqv z d)) H
def rNotInDT (K : PySem.W.Frag) : R2 := fun x y H Q => ∃ d ds, Dp K H x d ∧ Dp K H y (.tuple ds) ∧ SeqAt.shaped d = true ∧ SeqAt.shaped (.tuple ds) = true ∧ Q (.bl (!ds.any fun z => PyData.eqv z d)) H
theorem room65 {k : Nat} {A : Around} (hr : Room k A) : A.units + 65 < cLine := by have := hr.un; omega
theorem op_inDT {X : Cx} {k : Nat} (hr : Room k X.A) : OpR X (compareOp .In) (rInDT X.K) := by
  intro pins s σ H x y v u Q I rx ry h
  obtain ⟨d, ds, hd, he, sd, se, q⟩ := h
  obtain ⟨as, r1⟩ := Dp.reads I d x v hd rx
  obtain ⟨bs, r2⟩ := Dp.reads I (.tuple ds) y u he ry
  exact SeqAt.in_tuple_reads r2 r1 (SeqAt.canLay_of_shaped se) (SeqAt.canLay_of_shaped sd) (room_in_shaped sd (room65 hr)) ⟨.bl _, H, I, rfl, q⟩
theorem op_notInDT {X : Cx} {k : Nat} (hr : Room k X.A) : OpR X (compareOp .NotIn) (rNotInDT X.K) := by
  intro pins s σ H x y v u Q I rx ry h
  obtain ⟨d, ds, hd, he, sd, se, q⟩ := h
  obtain ⟨as, r1⟩ := Dp.reads I d x v hd rx
  obtain ⟨bs, r2⟩ := Dp.reads I (.tuple ds) y u he ry
  exact SeqAt.notIn_tuple_reads r2 r1 (SeqAt.canLay_of_shaped se) (SeqAt.canLay_of_shaped sd) (room_in_shaped sd (room65 hr)) ⟨.bl _, H, I, rfl, q⟩
def rTupleOf (K : PySem.W.Frag) : List V → Hp → VK → Prop := fun xs H Q => ∃ p ys, xs = [.ref p] ∧ ((SqL K H p ys ∧ ∀ l, H l = none → Q (.ref l) (upd H l (.tup ys))) ∨ (SqT K H p ys ∧ Q (.ref p) H))
theorem cr_tupleOf {X : Cx} : CallR X (.type "tuple") (rTupleOf X.K) := call_tuple_of
def rListOf (K : PySem.W.Frag) : List V → Hp → VK → Prop := fun xs H Q => ∃ p ys, xs = [.ref p] ∧ (SqL K H p ys ∨ SqT K H p ys) ∧ ∀ l, H l = none → Q (.ref l) (upd H l (.lst ys))
theorem cr_listOf {X : Cx} : CallR X (.type "list") (rListOf X.K) := call_list_of
theorem r_tupleOf {K : PySem.W.Frag} {H : Hp} {Q : VK} {p : Addr} {ys : List V} (h : SqL K H p ys) (q : ∀ l H', H l = none → H' l = some (.tup ys) → Same H H' → Q (.ref l) H') : rTupleOf K [.ref p] H Q := ⟨p, ys, rfl, .inl ⟨h, fun l hl => q l _ hl upd_same (same_new hl)⟩⟩
theorem r_listOfT {K : PySem.W.Frag} {H : Hp} {Q : VK} {p : Addr} {ys : List V} (h : SqT K H p ys) (q : NewC Q ys H) : rListOf K [.ref p] H Q := ⟨p, ys, rfl, .inr h, q⟩
/-! ### pairs of naturals -/
def vp (w : Nat × Nat) : HO := .tup [.int (w.1 : Int), .int (w.2 : Int)]
def dpr (w : Nat × Nat) : PyData := .tuple [.int (w.1 : Int), .int (w.2 : Int)]
/-- the rows at ps are the pairs ws -/
def PairsAt (H : Hp) (ps : List Addr) (ws : List (Nat × Nat)) : Prop := ps.length = ws.length ∧ ∀ (i : Nat) (a : Addr) (w : Nat × Nat), ps[i]? = some a → ws[i]? = some w → H a = some (vp w)
theorem PairsAt.same {H H' : Hp} {ps : List Addr} {ws : List (Nat × Nat)} (h : PairsAt H ps ws) (s : Same H H') : PairsAt H' ps ws := ⟨h.1, fun i a w x y => s _ _ (h.2 i a w x y)⟩
theorem PairsAt.nil {H : Hp} : PairsAt H [] [] := ⟨rfl, fun i a w h => by simp at h⟩
theorem PairsAt.push {H' : Hp} {ps : List Addr} {ws : List (Nat × Nat)} {p : Addr} {w : Nat × Nat} (h : PairsAt H' ps ws) (hp : H' p = some (vp w)) : PairsAt H' (ps ++ [p]) (ws ++ [w]) := by
  refine ⟨by rw [List.length_append, List.length_append, h.1]; rfl, fun i a w' x y => ?_⟩
  rcases Nat.lt_or_ge i ps.length with z | z
  · rw [List.getElem?_append_left z] at x
    rw [List.getElem?_append_left (by rw [← h.1]; exact z)] at y
    exact h.2 i a w' x y
  · rw [List.getElem?_append_right z] at x
    rw [List.getElem?_append_right (by rw [← h.1]; exact z), ← h.1] at y
    have hi : i - ps.length = 0 := by
      have := (List.getElem?_eq_some_iff.mp x).1
      simp at this
      omega
    rw [hi] at x y
    cases x
    cases y
    exact hp
theorem PairsAt.upd {H : Hp} {ps : List Addr} {ws : List (Nat × Nat)} {l : Addr} {xs : List V} {o : HO} (h : PairsAt H ps ws) (hl : H l = some (.lst xs)) : PairsAt (L2.upd H l o) ps ws :=
  ⟨h.1, fun i a w x y => by
    have := h.2 i a w x y
    rw [upd_ne (ne_of this hl (by intro z; cases z))]
    exact this⟩
theorem PairsAt.tail {H : Hp} {p : Addr} {ps : List Addr} {w : Nat × Nat} {ws : List (Nat × Nat)} (h : PairsAt H (p :: ps) (w :: ws)) : H p = some (vp w) ∧ PairsAt H ps ws :=
  ⟨h.2 0 p w rfl rfl, by have := h.1; simpa using this, fun i a w' x y => h.2 (i + 1) a w' (by simpa using x) (by simpa using y)⟩
theorem PairsAt.dp {K : PySem.W.Frag} {H : Hp} : ∀ {ps : List Addr} {ws : List (Nat × Nat)}, PairsAt H ps ws → DpAll K H (ps.map V.ref) (ws.map dpr)
  | [], [], _ => .nil
  | [], _ :: _, h => by have := h.1; simp at this
  | _ :: _, [], h => by have := h.1; simp at this
  | p :: ps, w :: ws, h => .cons (.tup (SqT.of h.tail.1) (.cons (.int _) (.cons (.int _) .nil))) (PairsAt.dp h.tail.2)
theorem dpr_lay (w : Nat × Nat) : (dpr w).canLay0 = true := by simp [dpr, PyData.canLay0, PyData.canLayAll0]
theorem dpr_depth (w : Nat × Nat) : (dpr w).depth = 1 := by simp [dpr, PyData.depth, PyData.depthAll]
theorem dprs_lay : ∀ ws : List (Nat × Nat), PyData.canLayAll0 (ws.map dpr) = true
  | [] => by simp only [List.map_nil, PyData.canLayAll0]
  | w :: ws => by simp only [List.map_cons, PyData.canLayAll0, dpr_lay, dprs_lay ws, Bool.and_self]
theorem dprs_depth : ∀ ws : List (Nat × Nat), PyData.depthAll (ws.map dpr) ≤ 1
  | [] => by simp only [List.map_nil, PyData.depthAll]; omega
  | w :: ws => by
    simp only [List.map_cons, PyData.depthAll, dpr_depth]
    have := dprs_depth ws
    omega
theorem dpr_shaped (w : Nat × Nat) : SeqAt.shaped (dpr w) = true := by
  unfold SeqAt.shaped
  rw [dpr_lay, dpr_depth]
  rfl
theorem dprs_shapedT (ws : List (Nat × Nat)) : SeqAt.shaped (.tuple (ws.map dpr)) = true := by
  unfold SeqAt.shaped
  have h := dprs_depth ws
  simp only [PyData.canLay0, PyData.depth, dprs_lay, Bool.true_and, decide_eq_true_eq]
  exact decide_eq_true (Nat.le_trans (Nat.succ_le_succ h) (show 2 ≤ 64 by decide))
theorem dprs_shapedL (ws : List (Nat × Nat)) : SeqAt.shaped (.list (ws.map dpr)) = true := by
  unfold SeqAt.shaped
  have h := dprs_depth ws
  simp only [PyData.canLay0, PyData.depth, dprs_lay, Bool.true_and, decide_eq_true_eq]
  exact decide_eq_true (Nat.le_trans (Nat.succ_le_succ h) (show 2 ≤ 64 by decide))
theorem dpr_eqv (z w : Nat × Nat) : PyData.eqv (dpr z) (dpr w) = decide (z = w) := by
  have h := eqv_ints [(z.1 : Int), (z.2 : Int)] [(w.1 : Int), (w.2 : Int)]
  have e : PyData.eqv (dpr z) (dpr w) = PyData.eqvAll (List.map PyData.int [(z.1 : Int), (z.2 : Int)]) (List.map PyData.int [(w.1 : Int), (w.2 : Int)]) := by
    simp only [dpr, PyData.eqv, List.map_cons, List.map_nil]
  rw [e, h]
  obtain ⟨a, b⟩ := z
  obtain ⟨c, d⟩ := w
  refine decide_eq_decide.mpr ⟨fun z => ?_, fun z => by cases z; rfl⟩
  have z1 : (a : Int) = c := (List.cons.inj z).1
  have z2 : (b : Int) = d := (List.cons.inj (List.cons.inj z).2).1
  rw [show a = c by omega, show b = d by omega]
theorem dprs_eqv : ∀ zs ws : List (Nat × Nat), PyData.eqvAll (zs.map dpr) (ws.map dpr) = decide (zs = ws)
  | [], [] => by simp [PyData.eqvAll]
  | [], _ :: _ => by simp [PyData.eqvAll]
  | _ :: _, [] => by simp [PyData.eqvAll]
  | z :: zs, w :: ws => by
    simp only [List.map_cons, PyData.eqvAll, dpr_eqv, dprs_eqv zs ws]
    by_cases h1 : z = w <;> by_cases h2 : zs = ws <;> simp [h1, h2]
section
variable {K : PySem.W.Frag} {H : Hp} {Q : VK} {p q : Addr} {ps qs : List Addr} {zs ws : List (Nat × Nat)}
theorem r_eqPT (hp : SqT K H p (ps.map V.ref)) (hz : PairsAt H ps zs) (hq : SqT K H q (qs.map V.ref)) (hw : PairsAt H qs ws) (k : Q (.bl (decide (zs = ws))) H) : rEqD K (.ref p) (.ref q) H Q :=
  ⟨.tuple (zs.map dpr), .tuple (ws.map dpr), .tup hp hz.dp, .tup hq hw.dp, dprs_shapedT zs, dprs_shapedT ws, by rw [show PyData.eqv (.tuple (zs.map dpr)) (.tuple (ws.map dpr)) = decide (zs = ws) from by simp only [PyData.eqv, dprs_eqv]]; exact k⟩
theorem r_nePT (hp : SqT K H p (ps.map V.ref)) (hz : PairsAt H ps zs) (hq : SqT K H q (qs.map V.ref)) (hw : PairsAt H qs ws) (k : Q (.bl (!decide (zs = ws))) H) : rNeD K (.ref p) (.ref q) H Q :=
  ⟨.tuple (zs.map dpr), .tuple (ws.map dpr), .tup hp hz.dp, .tup hq hw.dp, dprs_shapedT zs, dprs_shapedT ws, by rw [show PyData.eqv (.tuple (zs.map dpr)) (.tuple (ws.map dpr)) = decide (zs = ws) from by simp only [PyData.eqv, dprs_eqv]]; exact k⟩
theorem r_eqPL (hp : SqL K H p (ps.map V.ref)) (hz : PairsAt H ps zs) (hq : SqL K H q (qs.map V.ref)) (hw : PairsAt H qs ws) (k : Q (.bl (decide (zs = ws))) H) : rEqD K (.ref p) (.ref q) H Q :=
  ⟨.list (zs.map dpr), .list (ws.map dpr), .lst hp hz.dp, .lst hq hw.dp, dprs_shapedL zs, dprs_shapedL ws, by rw [show PyData.eqv (.list (zs.map dpr)) (.list (ws.map dpr)) = decide (zs = ws) from by simp only [PyData.eqv, dprs_eqv]]; exact k⟩
theorem any_dpr (w : Nat × Nat) : ∀ ws : List (Nat × Nat), ((ws.map dpr).any fun z => PyData.eqv z (dpr w)) = decide (w ∈ ws)
  | [] => by simp
  | z :: ws => by
    rw [List.map_cons, List.any_cons, dpr_eqv, any_dpr w ws]
    by_cases h1 : z = w <;> by_cases h2 : w ∈ ws <;> simp [h1, h2]
    exact fun e => h1 e.symm
theorem r_inPT {w : Nat × Nat} (hx : H p = some (vp w)) (hq : SqT K H q (qs.map V.ref)) (hw : PairsAt H qs ws) (k : Q (.bl (decide (w ∈ ws))) H) : rInDT K (.ref p) (.ref q) H Q :=
  ⟨dpr w, ws.map dpr, .tup (SqT.of hx) (.cons (.int _) (.cons (.int _) .nil)), .tup hq hw.dp, dpr_shaped w, dprs_shapedT ws, by rw [any_dpr]; exact k⟩
theorem r_ninPT {w : Nat × Nat} (hx : H p = some (vp w)) (hq : SqT K H q (qs.map V.ref)) (hw : PairsAt H qs ws) (k : Q (.bl (!decide (w ∈ ws))) H) : rNotInDT K (.ref p) (.ref q) H Q :=
  ⟨dpr w, ws.map dpr, .tup (SqT.of hx) (.cons (.int _) (.cons (.int _) .nil)), .tup hq hw.dp, dpr_shaped w, dprs_shapedT ws, by rw [any_dpr]; exact k⟩
end
/-! ### all ways -/
/-- the divisors of g among 2 .. i + 1 -/
def divs (g i : Nat) : List Nat := ((List.range i).map (2 + ·)).filter fun k => g % k == 0
def waysL (b g : Nat) : List (Nat × Nat) := (divs g (g - 1)).map fun k => (b ^ (g / k), k)
theorem divs_succ (g i : Nat) : divs g (i + 1) = if g % (2 + i) = 0 then divs g i ++ [2 + i] else divs g i := by
  unfold divs
  rw [List.range_succ, List.map_append, List.filter_append]
  by_cases h : g % (2 + i) = 0
  · rw [if_pos h]
    simp [h]
  · rw [if_neg h]
    simp [h]
theorem mem_divs {g i k : Nat} : k ∈ divs g i ↔ 2 ≤ k ∧ k < 2 + i ∧ k ∣ g := by
  unfold divs
  rw [List.mem_filter, List.mem_map]
  constructor
  · rintro ⟨⟨j, hj, rfl⟩, h⟩
    rw [List.mem_range] at hj
    exact ⟨by omega, by omega, Nat.dvd_of_mod_eq_zero (by simpa using h)⟩
  · rintro ⟨h1, h2, h3⟩
    exact ⟨⟨k - 2, by rw [List.mem_range]; omega, by omega⟩, by simpa using Nat.mod_eq_zero_of_dvd h3⟩
theorem divs_len (g i : Nat) : (divs g i).length ≤ i := by
  unfold divs
  have h := List.length_filter_le (fun k => g % k == 0) ((List.range i).map (2 + ·))
  rw [List.length_map, List.length_range] at h
  exact h
def spIsPower : Sp := fun vs H Q _ => ∃ n : Nat, vs = [.int (n : Int)] ∧ n < 2 ^ 190 ∧ ∀ (b g : Nat) (H' : Hp), GW n b g → Same H H' → Q (.bl (decide (1 < g))) H'
def spWays : Sp := fun vs H Q _ => ∃ n : Nat, vs = [.int (n : Int)] ∧ n < 2 ^ 190 ∧ ∀ (b g : Nat) (p : Addr) (ps : List Addr) (H' : Hp), GW n b g → g ≤ 200 → H p = none → Same H H' → H' p = some (.tup (ps.map V.ref)) → PairsAt H' ps (waysL b g) → Q (.ref p) H'
theorem GW.g_le {n b g : Nat} (h : GW n b g) (hn : n < 2 ^ 190) : g ≤ 190 := by
  rcases h with ⟨_, _, rfl⟩ | ⟨_, _, rfl⟩ | ⟨b2, _, _, e⟩
  · decide
  · decide
  · refine Nat.le_of_not_lt fun z => ?_
    have h1 : 2 ^ g ≤ b ^ g := Nat.pow_le_pow_left b2 g
    have h2 : (2 : Nat) ^ 190 ≤ 2 ^ g := Nat.pow_le_pow_right (by decide) (by omega)
    omega
theorem GW.b_lt {n b g : Nat} (h : GW n b g) (hn : n < 2 ^ 190) : b < 2 ^ 190 := by
  rcases h with ⟨_, rfl, _⟩ | ⟨_, rfl, _⟩ | ⟨b2, _, g1, e⟩
  · exact Nat.pow_pos (by decide)
  · exact Nat.one_lt_two_pow (by decide)
  · have : b ≤ b ^ g := Nat.le_self_pow (by omega) b
    omega
end Pw
namespace Pw
open PySem PySem.Spec PyProof.Rows L2 SX TL
theorem waysL_len (b g : Nat) : (waysL b g).length ≤ g := by
  unfold waysL
  rw [List.length_map]
  have := divs_len g (g - 1)
  omega
theorem waysL_mem {b g : Nat} {w : Nat × Nat} : w ∈ waysL b g ↔ 2 ≤ w.2 ∧ w.2 < 2 + (g - 1) ∧ w.2 ∣ g ∧ w.1 = b ^ (g / w.2) := by
  unfold waysL
  rw [List.mem_map]
  constructor
  · rintro ⟨k, hk, rfl⟩
    obtain ⟨h1, h2, h3⟩ := mem_divs.mp hk
    exact ⟨h1, h2, h3, rfl⟩
  · rintro ⟨h1, h2, h3, h4⟩
    exact ⟨w.2, mem_divs.mpr ⟨h1, h2, h3⟩, by rw [← h4]⟩
theorem waysL_empty {b g : Nat} : waysL b g = [] ↔ g ≤ 1 := by
  constructor
  · intro h
    refine Nat.le_of_not_lt fun z => ?_
    have : (b ^ (g / g), g) ∈ waysL b g := waysL_mem.mpr ⟨by omega, by omega, Nat.dvd_refl g, rfl⟩
    rw [h] at this
    cases this
  · intro h
    cases e : waysL b g with
    | nil => rfl
    | cons w r =>
      have : w ∈ waysL b g := by rw [e]; exact List.mem_cons_self ..
      obtain ⟨h1, h2, _⟩ := waysL_mem.mp this
      omega
theorem GW.pow {n b g : Nat} (h : GW n b g) : b ^ g = n := by
  rcases h with ⟨rfl, rfl, rfl⟩ | ⟨rfl, rfl, rfl⟩ | ⟨_, _, _, e⟩
  · rfl
  · rfl
  · exact e
theorem GW.pos {n b g : Nat} (h : GW n b g) : 1 ≤ g := by
  rcases h with ⟨rfl, rfl, rfl⟩ | ⟨rfl, rfl, rfl⟩ | ⟨_, _, e, _⟩ <;> omega
theorem r_iteB {c A B : Prop} [Decidable c] {b : Bool} (hb : b = decide c) (h1 : c → A) (h2 : ¬ c → B) : if b = true then A else B := by
  subst hb
  exact r_ite h1 h2
def spNumR : Sp := fun vs H Q _ => ∃ n : Nat, vs = [.int (n : Int)] ∧ n ≤ 10 ^ 40 ∧ ∀ H', Same H H' → Q (.bl true) H'
def spTwoR : Sp := fun vs H Q _ => ∃ (d c : Addr) (n : Nat), vs = [.ref d] ∧ DeckAt H d c n ∧ n ≤ 2 ^ 40 ∧ ∀ H', Keep d H H' → DeckAt H' d c (n + 4) → Q (.bl true) H'
end Pw

namespace SrtO
open PySem PyProof.Rows Srt
section
variable {prog : Program} {w : World} {A : Around} {E : Value → Shared → Prop} {s : Shared}
theorem collect_tup {l : Addr} {vs : List Value} {Q : List Value → Shared → Prop} (hl : IsTup s.heap l vs.toArray)
    (h : Q vs { s with heap := (s.heap.push (seqObj "list" #[] 0)).update s.heap.objs.size (Obj.mapSeq (· ++ vs.toArray)) }) (hsz : vs.length ≤ sizeLine) :
    wpAny (model prog w) A (collect (.ref l)) Q E s := by
  obtain ⟨o, ho, hc, n, hd⟩ := id hl
  unfold collect
  refine wpAny_bind (wpAny_runValue (codeAny_builtin F.entry_proto_collect ?_))
  show wpAny _ _ (do again (.builtin "list.__iadd__" ⟨[← newList [], .ref l], []⟩)) _ _ s
  refine wpAny_bind (wpAny_newList (wpAny_pure ⟨Code.quiet_builtin _ (by decide +kernel), codeAny_builtin F.entry_list_iadd ?_⟩))
  show wpAny _ _ (Builtin.List.listExtendWith (.ref s.heap.objs.size) (.ref l) (.ref s.heap.objs.size)) _ _ { s with heap := s.heap.push (seqObj "list" #[] 0) }
  unfold Builtin.List.listExtendWith
  have ho' : (s.heap.push (seqObj "list" #[] 0)).get? l = some o := Heap.get?_push_of_some _ ho
  refine wpAny_bind (wpAny_typeOf (T := "tuple") ⟨o, ho', hc⟩ ?_)
  have ht : (Value.type "tuple" == Value.type "tuple") = true := by rfl
  rw [if_pos (by rw [ht]; simp)]
  refine wpAny_bind (listItems_at ho' hd ?_)
  refine wpAny_bind (listItems_at (xs := #[]) (n := 0) (Heap.get?_push_size _ rfl) rfl ?_)
  rw [if_neg (by simp)]
  refine wpAny_bind (listUpdate_at (xs := #[]) (n := 0) (Heap.get?_push_size _ rfl) rfl ?_ (Nat.zero_le _) (by show (#[] ++ vs.toArray).size ≤ sizeLine + 1; simp only [Array.size_append, List.size_toArray, List.length_nil]; omega))
  refine wpAny_pure ?_
  show wpAny (model prog w) A (do
      let o ← load s.heap.objs.size
      match o.data with
      | .seq xs _ => pure xs.toList
      | _ => unsupported "internal:collect") Q E { s with heap := (s.heap.push (seqObj "list" #[] 0)).update s.heap.objs.size (Obj.mapSeq (· ++ vs.toArray)) }
  refine wpAny_bind (wpAny_load (get?_update_seq (Heap.get?_push_size _ rfl) _) ?_)
  show wpAny _ _ (pure ((#[] : Array Value) ++ vs.toArray).toList) Q E _
  rw [show ((#[] : Array Value) ++ vs.toArray).toList = vs by simp]
  exact wpAny_pure h
theorem sorted_ordT {l : Addr} {vs : List Value} {ltv : Value → Value → Bool} {Q : Value → Shared → Prop} (O : Swo ltv) (hl : IsTup s.heap l vs.toArray) (hz : vs.length ≤ sizeLine)
    (hS : 2 ≤ vs.length → ∀ (h₁ : Heap) (a : Addr), h₁.get? a = some (seqObj "list" vs.toArray 0) → (∀ b o, s.heap.get? b = some o → b ≠ a ∧ h₁.get? b = some o) → SortableO prog w A.in1.in1 { s with heap := h₁ } a vs ltv)
    (h : ∀ out : List Value, Srtd ltv out → Stb ltv out vs → Q (.ref (s.heap.objs.size + 1)) { s with heap := sortedAll s.heap vs out.toArray }) :
    wpAny (model prog w) A (call (.builtin "sorted") [.ref l]) Q E s := by
  refine Calls.call_function_entry kind_sorted plain_sorted entry_sorted (args_sorted1 _) ?_
  unfold Builtin.«sorted»
  refine wpAny_bind (m := checkCount "sorted" 1 1 _) (wpAny_pure ?_)
  refine wpAny_bind (collect_tup hl ?_ hz)
  refine wpAny_bind (wpAny_newList ?_ hz)
  have hsz : ((s.heap.push (seqObj "list" #[] 0)).update s.heap.objs.size (Obj.mapSeq (· ++ vs.toArray))).objs.size = s.heap.objs.size + 1 := by
    rw [Heap.size_update, size_push']
  have hoL : (((s.heap.push (seqObj "list" #[] 0)).update s.heap.objs.size (Obj.mapSeq (· ++ vs.toArray))).push (seqObj "list" vs.toArray 0)).get? (s.heap.objs.size + 1) = some (seqObj "list" vs.toArray 0) := by
    rw [← hsz]; exact Heap.get?_push_size _ rfl
  have keep : ∀ b o, s.heap.get? b = some o → b ≠ s.heap.objs.size + 1 ∧ (((s.heap.push (seqObj "list" #[] 0)).update s.heap.objs.size (Obj.mapSeq (· ++ vs.toArray))).push (seqObj "list" vs.toArray 0)).get? b = some o := fun b o q => by
    have hlt : b < s.heap.objs.size := Heap.lt_size q
    refine ⟨Nat.ne_of_lt (Nat.lt_succ_of_lt hlt), Heap.get?_push_of_some _ ?_⟩
    rw [Heap.get?_update_ne _ _ _ _ (Nat.ne_of_lt hlt)]
    exact Heap.get?_push_of_some _ q
  show wpAny _ _ _ _ _ { s with heap := ((s.heap.push (seqObj "list" #[] 0)).update s.heap.objs.size (Obj.mapSeq (· ++ vs.toArray))).push (seqObj "list" vs.toArray 0) }
  rw [hsz]
  refine wpAny_bind (wpAny_holding (wpAny_call_entry slot_list_sort ⟨_, hoL, rfl⟩ entry_list_sort (list_sort_ord O hoL hz (fun h2 => hS h2 _ _ hoL keep) fun out hs hb => ⟨_, rfl, ?_⟩) (args_list_sort _)))
  exact wpAny_pure ⟨_, rfl, h out hs hb⟩
theorem sorted_pairsOT {l : Addr} {vs : List Value} {k : Value → Int × Int} {Q : Value → Shared → Prop} (hl : IsTup s.heap l vs.toArray) (hz : vs.length ≤ sizeLine) (hp : ∀ v ∈ vs, IsPair s.heap v (k v).1 (k v).2)
    (h : ∀ (h' : Heap) (d : Addr) (out : List Value), Srtd (fun v u => lexB (k v) (k u)) out → Stb (fun v u => lexB (k v) (k u)) out vs → (∀ b o, s.heap.get? b = some o → h'.get? b = some o) → s.heap.objs.size ≤ d → (∃ n, h'.get? d = some (seqObj "list" out.toArray n)) → Q (.ref d) { s with heap := h' }) :
    wpAny (model prog w) A (call (.builtin "sorted") [.ref l]) Q E s := by
  refine sorted_ordT (swo_lex k) hl hz (fun h2 h₁ a ha kk => ?_) fun out hs hb => ?_
  · refine pairs_sortableO (s := { s with heap := h₁ }) (by omega) (fun v hm => (hp v hm).keeps fun b o e _ => (kk b o e).2) fun o e => ?_
    have e' : some o = some (seqObj "list" vs.toArray 0) := e.symm.trans ha
    cases e'
    intro c
    exact absurd (Value.type.inj c) (by decide)
  · exact h _ _ out hs hb (fun b o e => sortedAll_old e) (Nat.le_succ _) (sortedAll_at s.heap vs out.toArray)
end
end SrtO

namespace Pw
open PySem PySem.Spec PyProof.Rows L2 SX TL
/-! ### sorted of a tuple of pairs -/
def rSortedPT (K : PySem.W.Frag) : List V → Hp → VK → Prop := fun vs H Q => ∃ (a : Addr) (xs : List V) (k : V → Int × Int), vs = [V.ref a] ∧ SqT K H a xs ∧ (∀ x ∈ xs, ∃ t, x = V.ref t ∧ H t = some (.tup [.int (k x).1, .int (k x).2])) ∧
  ∀ ys p, SrtO.Srtd (ltP k) ys → SrtO.Stb (ltP k) ys xs → H p = none → Q (.ref p) (upd H p (.lst ys))
theorem cr_sortedPT {X : Cx} : CallR X (.builtin "sorted") (rSortedPT X.K) := by
  intro pins s σ H vs us Q I r h
  obtain ⟨a, xs, k, rfl, hs, hx, q⟩ := h
  obtain ⟨its, rv, hl, hz⟩ := I.tuple hs
  obtain ⟨u, rfl, ru⟩ := vals1 r
  obtain rfl : u = Value.ref a := ru
  obtain ⟨e1, e2⟩ := refs_back rv fun x m => by
    obtain ⟨t, e, _⟩ := hx x m
    exact ⟨t, e⟩
  refine SrtO.sorted_pairsOT (k := fun u => k (backV u)) hl (by rw [← rv.length]; exact hz) (fun v hv => ?_) fun h' d out h1 h2 kp hd hn => ?_
  · obtain ⟨t, rfl⟩ := e2 v hv
    have hm : V.ref t ∈ xs := by rw [e1]; exact List.mem_map.mpr ⟨_, hv, rfl⟩
    obtain ⟨t', e, ht⟩ := hx _ hm
    cases e
    obtain ⟨_, its2, r2, o, ho, hc, n, hd⟩ := I.hok _ _ ht
    obtain ⟨u1, u2, rfl, ri, rj⟩ := vals2 r2
    obtain ⟨t1, rfl⟩ := ri
    obtain ⟨t2, rfl⟩ := rj
    exact ⟨t, o, t1, t2, n, rfl, ho, hc, hd⟩
  · have h3 : ∀ u ∈ out, ∃ a, u = Value.ref a := fun u hu => e2 u (h2.perm.mem_iff.mp hu)
    obtain ⟨n, hn⟩ := hn
    have hb : SrtO.Stb (ltP k) (out.map backV) xs := by
      rw [e1]
      exact SrtO.Stb.map (ltP_swo k) backV h2
    refine ⟨.ref d, upd H d (.lst (out.map backV)), I.laid (t' := s.toks) kp hd ⟨?_, out, n, vals_back h3, hn⟩, rfl, q _ d (SrtO.srtd_map h1) hb (I.hok.fresh hd)⟩
    rw [hb.len]
    exact hz
/-- what stands at a place, as a pair -/
def kyH (H : Hp) : V → Int × Int
  | .ref a => match H a with
    | some (.tup [.int i, .int j]) => (i, j)
    | _ => (0, 0)
  | _ => (0, 0)
def kyN (H : Hp) (v : V) : Nat × Nat := ((kyH H v).1.toNat, (kyH H v).2.toNat)
theorem kyH_of {H : Hp} {a : Addr} {w : Nat × Nat} (h : H a = some (vp w)) : kyH H (.ref a) = ((w.1 : Int), (w.2 : Int)) := by
  show (match H a with
    | some (.tup [.int i, .int j]) => (i, j)
    | _ => ((0 : Int), (0 : Int))) = _
  rw [h]
  rfl
theorem kyN_of {H : Hp} {a : Addr} {w : Nat × Nat} (h : H a = some (vp w)) : kyN H (.ref a) = w := by
  unfold kyN
  rw [kyH_of h]
  rfl
theorem PairsAt.keys {H : Hp} : ∀ {ps : List Addr} {ws : List (Nat × Nat)}, PairsAt H ps ws → (ps.map V.ref).map (kyN H) = ws
  | [], [], _ => rfl
  | [], _ :: _, h => by have := h.1; simp at this
  | _ :: _, [], h => by have := h.1; simp at this
  | p :: ps, w :: ws, h => by
    rw [List.map_cons, List.map_cons, kyN_of h.tail.1, PairsAt.keys h.tail.2]
theorem PairsAt.mem {H : Hp} : ∀ {ps : List Addr} {ws : List (Nat × Nat)}, PairsAt H ps ws → ∀ a ∈ ps, ∃ w, H a = some (vp w)
  | [], _, _, a, m => by cases m
  | _ :: _, [], h, _, _ => by have := h.1; simp at this
  | p :: ps, w :: ws, h, a, m => by
    rcases List.mem_cons.mp m with rfl | m
    · exact ⟨w, h.tail.1⟩
    · exact PairsAt.mem h.tail.2 a m
/-- the pairs by their first, where the firsts are all different -/
def Asc (ws : List (Nat × Nat)) : Prop := ws.Pairwise fun a b => a.1 < b.1
theorem asc_uniq : ∀ {as bs : List (Nat × Nat)}, Asc as → Asc bs → (∀ x, x ∈ as ↔ x ∈ bs) → as = bs
  | [], [], _, _, _ => rfl
  | [], b :: bs, _, _, h => by have := (h b).mpr (List.mem_cons_self ..); cases this
  | a :: as, [], _, _, h => by have := (h a).mp (List.mem_cons_self ..); cases this
  | a :: as, b :: bs, ha, hb, h => by
    have ha' := List.pairwise_cons.mp ha
    have hb' := List.pairwise_cons.mp hb
    have e : a = b := by
      rcases List.mem_cons.mp ((h a).mp (List.mem_cons_self ..)) with e | m1
      · exact e
      · rcases List.mem_cons.mp ((h b).mpr (List.mem_cons_self ..)) with e | m2
        · exact e.symm
        · have h1 := hb'.1 a m1
          have h2 := ha'.1 b m2
          omega
    subst e
    refine congrArg (a :: ·) (asc_uniq ha'.2 hb'.2 fun x => ⟨fun m => ?_, fun m => ?_⟩)
    · rcases List.mem_cons.mp ((h x).mp (List.mem_cons_of_mem _ m)) with e | m'
      · subst e
        exact absurd (ha'.1 _ m) (Nat.lt_irrefl _)
      · exact m'
    · rcases List.mem_cons.mp ((h x).mpr (List.mem_cons_of_mem _ m)) with e | m'
      · subst e
        exact absurd (hb'.1 _ m) (Nat.lt_irrefl _)
      · exact m'
theorem r_sortedPT {K : PySem.W.Frag} {p : Addr} {ps : List Addr} {ws : List (Nat × Nat)} {H : Hp} {Q : VK} (hp : SqT K H p (ps.map V.ref)) (hw : PairsAt H ps ws) (hd : ws.Pairwise fun a b => a.1 ≠ b.1)
    (q : ∀ (D : Addr) (H' : Hp) (qs : List Addr) (zs : List (Nat × Nat)), H D = none → H' D = some (.lst (qs.map V.ref)) → Same H H' → PairsAt H' qs zs → zs.Perm ws → Asc zs → Q (.ref D) H') : rSortedPT K [.ref p] H Q := by
  refine ⟨p, ps.map V.ref, kyH H, rfl, hp, fun x m => ?_, fun ys D hs hb nD => ?_⟩
  · obtain ⟨a, m', rfl⟩ := List.mem_map.mp m
    obtain ⟨w, h⟩ := hw.mem a m'
    exact ⟨a, rfl, by rw [kyH_of h]; exact h⟩
  · have hy : ∀ y ∈ ys, ∃ a w, y = V.ref a ∧ H a = some (vp w) := fun y m => by
      obtain ⟨a, m', rfl⟩ := List.mem_map.mp (hb.perm.mem_iff.mp m)
      obtain ⟨w, h⟩ := hw.mem a m'
      exact ⟨a, w, rfl, h⟩
    obtain ⟨qs, rfl, hq⟩ : ∃ qs : List Addr, ys = qs.map V.ref ∧ PairsAt H qs ((qs.map V.ref).map (kyN H)) := by
      clear hs hb q
      induction ys with
      | nil => exact ⟨[], rfl, PairsAt.nil⟩
      | cons y ys ih =>
        obtain ⟨qs, rfl, hq⟩ := ih fun z m => hy z (List.mem_cons_of_mem _ m)
        obtain ⟨a, w, rfl, h⟩ := hy y (List.mem_cons_self ..)
        refine ⟨a :: qs, rfl, by rw [List.length_map, List.length_map], fun i b z e1 e2 => ?_⟩
        cases i with
        | zero =>
          cases e1
          rw [List.map_cons, List.map_cons, kyN_of h] at e2
          cases e2
          exact h
        | succ i => exact hq.2 i b z e1 e2
    have hperm : ((qs.map V.ref).map (kyN H)).Perm ws := by
      rw [← hw.keys]
      exact hb.perm.map _
    refine q D _ qs ((qs.map V.ref).map (kyN H)) nD upd_same (same_new nD) (hq.same (same_new nD)) hperm ?_
    have hne : ((qs.map V.ref).map (kyN H)).Pairwise fun a b => a.1 ≠ b.1 := (hperm.pairwise_iff fun h e => h e.symm).mpr hd
    have hle : ((qs.map V.ref).map (kyN H)).Pairwise fun a b => a.1 ≤ b.1 := by
      refine List.Pairwise.map _ (R := fun x y => (kyN H x).1 ≤ (kyN H y).1) (fun a b h => h) ?_
      refine List.Pairwise.imp_of_mem (R := fun x y => ltP (kyH H) y x = false) (fun {x y} mx my h => ?_) hs
      obtain ⟨a, w, rfl, ha⟩ := hy x mx
      obtain ⟨b, z, rfl, hb⟩ := hy y my
      have := SrtO.lexB_no.mp h
      rw [kyH_of ha, kyH_of hb] at this
      rw [kyN_of ha, kyN_of hb]
      simp only at this
      omega
    exact (hle.and hne).imp fun h => by omega
/-! ### a table of pairs -/
/-- the dict at d: at v the tuple of the pairs T v, or nothing where T v is empty -/
def DT (H : Hp) (d : Addr) (T : Nat → List (Nat × Nat)) (N : Nat) : Prop := ∃ kvs : List (Key × V), H d = some (.dK kvs) ∧ kvs.length ≤ N ∧
  ∀ v : Nat, (valV kvs (.inl (v : Int)) = none ∧ T v = []) ∨ ∃ (p : Addr) (ps : List Addr), valV kvs (.inl (v : Int)) = some (.ref p) ∧ H p = some (.tup (ps.map V.ref)) ∧ PairsAt H ps (T v)
theorem DT.same {H H' : Hp} {d : Addr} {T : Nat → List (Nat × Nat)} {N : Nat} (h : DT H d T N) (s : Same H H') : DT H' d T N := by
  obtain ⟨kvs, h1, h2, h3⟩ := h
  refine ⟨kvs, s _ _ h1, h2, fun v => ?_⟩
  rcases h3 v with h | ⟨p, ps, a, b, c⟩
  · exact .inl h
  · exact .inr ⟨p, ps, a, s _ _ b, c.same s⟩
theorem DT.isD {H : Hp} {d : Addr} {T : Nat → List (Nat × Nat)} {N : Nat} (h : DT H d T N) : IsD H d := by
  obtain ⟨kvs, h1, _⟩ := h
  exact .inl ⟨kvs, Rd.of h1⟩
theorem DT.get {H : Hp} {d z : Addr} {T : Nat → List (Nat × Nat)} {N v : Nat} {Q : VK} (h : DT H d T N) (hz : H z = some (.tup [])) (q : ∀ (p : Addr) (ps : List Addr), H p = some (.tup (ps.map V.ref)) → PairsAt H ps (T v) → Q (.ref p) H) :
    ∃ o, DGet H d (.int (v : Int)) o ∧ Q (o.getD (.ref z)) H := by
  obtain ⟨kvs, h1, _, h3⟩ := h
  refine ⟨valV kvs (.inl (v : Int)), DGet.k (k := .inl (v : Int)) h1, ?_⟩
  rcases h3 v with ⟨a, b⟩ | ⟨p, ps, a, b, c⟩
  · rw [a]
    exact q z [] hz (by rw [b]; exact PairsAt.nil)
  · rw [a]
    exact q p ps b c
theorem DT.put {H : Hp} {d p : Addr} {ps : List Addr} {ws : List (Nat × Nat)} {T : Nat → List (Nat × Nat)} {N v : Nat} {D : Hp → Prop} (h : DT H d T N) (hN : N < 10000) (hp : H p = some (.tup (ps.map V.ref))) (hw : PairsAt H ps ws)
    (q : ∀ H', DT H' d (fun u => if u = v then ws else T u) (N + 1) → D H') : ∃ H', DPut H d (.int (v : Int)) (.ref p) H' ∧ D H' := by
  obtain ⟨kvs, h1, h2, h3⟩ := h
  refine ⟨_, DPut.k (k := .inl (v : Int)) h1 (Nat.lt_of_le_of_lt h2 (Nat.lt_of_lt_of_le hN (by decide))), q _ ?_⟩
  have kp : ∀ {a : Addr} {xs : List V} {o : HO}, H a = some (.tup xs) → upd H d o a = some (.tup xs) := fun {a xs o} e => by
    rw [upd_ne (ne_of e h1 (by intro z; cases z))]
    exact e
  have kw : ∀ {ps : List Addr} {ws : List (Nat × Nat)} {o : HO}, PairsAt H ps ws → PairsAt (upd H d o) ps ws := fun {ps ws o} e => ⟨e.1, fun i a w x y => kp (e.2 i a w x y)⟩
  refine ⟨_, upd_same, Nat.le_trans (length_putK _ _ _) (Nat.add_le_add_right h2 1), fun u => ?_⟩
  by_cases e : u = v
  · subst e
    refine .inr ⟨p, ps, ?_, kp hp, ?_⟩
    · rw [valV_put, if_pos rfl]
    · show PairsAt _ ps (if u = u then ws else T u)
      rw [if_pos rfl]
      exact kw hw
  · have ne : ¬ (Sum.inl (u : Int) : Key) = .inl (v : Int) := fun z => e (by have := Sum.inl.inj z; omega)
    rcases h3 u with ⟨a, b⟩ | ⟨p', ps', a, b, c⟩
    · exact .inl ⟨by rw [valV_put, if_neg ne]; exact a, (if_neg e).trans b⟩
    · exact .inr ⟨p', ps', by rw [valV_put, if_neg ne]; exact a, kp b, by show PairsAt _ ps' (if u = v then ws else T u); rw [if_neg e]; exact kw c⟩
theorem DT.new {H : Hp} {d : Addr} (h : H d = some (.dK [])) : DT H d (fun _ => []) 0 := ⟨[], h, Nat.le_refl _, fun v => .inl ⟨rfl, rfl⟩⟩
def NewD (Q : VK) (H : Hp) : Prop := ∀ p, H p = none → Q (.ref p) (upd H p (.dK []))
end Pw

namespace Pw
open PySem PySem.Spec PyProof.Rows L2 SX TL
theorem GW.ex (n : Nat) : ∃ b g : Nat, GW n b g := by
  induction n using Nat.strongRecOn with
  | ind n ih =>
    by_cases h0 : n = 0
    · exact ⟨0, 1, .inl ⟨h0, rfl, rfl⟩⟩
    by_cases h1 : n = 1
    · exact ⟨1, 2, .inr (.inl ⟨h1, rfl, rfl⟩)⟩
    have n2 : 2 ≤ n := by omega
    by_cases h : Pm.NotPow n
    · exact ⟨n, 1, .inr (.inr ⟨n2, h, Nat.le_refl 1, Nat.pow_one n⟩)⟩
    · obtain ⟨c, k, hk, e⟩ : ∃ c k, 2 ≤ k ∧ c ^ k = n := Classical.byContradiction fun z => h fun c k hk e => z ⟨c, k, hk, e⟩
      have c2 : 2 ≤ c := pow_base2 (by omega) n2 e
      have cn : c < n := by
        rw [← e]
        have h1 : c ^ 1 < c ^ k := Nat.pow_lt_pow_right (by omega) (by omega)
        rwa [Nat.pow_one] at h1
      obtain ⟨b, g, hg⟩ := ih c cn
      rcases hg with ⟨z, _, _⟩ | ⟨z, _, _⟩ | ⟨b2, np, g1, eg⟩
      · omega
      · omega
      · refine ⟨b, g * k, .inr (.inr ⟨b2, np, ?_, by rw [Nat.pow_mul, eg, e]⟩)⟩
        have := Nat.mul_le_mul g1 (show 1 ≤ k by omega)
        omega
/-- e is an exponent of n just where it divides g -/
theorem GW.dvd {n b g e r : Nat} (h : GW n b g) (hn : 2 ≤ n) (he : 2 ≤ e) (hr : Pm.IsRoot n e r) : r ^ e = n ↔ e ∣ g := by
  rcases h with ⟨z, _, _⟩ | ⟨z, _, _⟩ | ⟨b2, np, g1, eg⟩
  · omega
  · omega
  · constructor
    · intro h
      exact (Pm.ways_of_pow b2 np g1 (by omega) (h.trans eg.symm)).1
    · intro hd
      have h2 : (b ^ (g / e)) ^ e = n := by rw [← Nat.pow_mul, Nat.div_mul_cancel hd, eg]
      have h3 : Pm.IsRoot n e (b ^ (g / e)) := by
        rw [← h2]
        exact root_pow (by omega)
      cases hr.uniq h3
      exact h2
theorem GW.base {n b g e r : Nat} (h : GW n b g) (hn : 2 ≤ n) (he : 2 ≤ e) (hr : r ^ e = n) : e ∣ g ∧ r = b ^ (g / e) := by
  rcases h with ⟨z, _, _⟩ | ⟨z, _, _⟩ | ⟨b2, np, g1, eg⟩
  · omega
  · omega
  · exact Pm.ways_of_pow b2 np g1 (by omega) (hr.trans eg.symm)
theorem GW.le2 {n b g : Nat} (h : GW n b g) (hn : 2 ≤ n) : 2 ^ g ≤ n := by
  rcases h with ⟨z, _, _⟩ | ⟨z, _, _⟩ | ⟨b2, np, g1, eg⟩
  · omega
  · omega
  · rw [← eg]
    exact Nat.pow_le_pow_left b2 g
/-- beyond g are no divisors -/
theorem divs_all {g : Nat} (hg : 1 ≤ g) : ∀ m : Nat, divs g (g - 1 + m) = divs g (g - 1)
  | 0 => rfl
  | m + 1 => by
    rw [show g - 1 + (m + 1) = g - 1 + m + 1 by omega, divs_succ, if_neg, divs_all hg m]
    intro h
    have := Nat.le_of_dvd (by omega) (Nat.dvd_of_mod_eq_zero h)
    omega
def spLawWays : Sp := fun vs H Q _ => ∃ n : Nat, vs = [.int (n : Int)] ∧ n < 2 ^ 133 ∧ ∀ (b g : Nat) (p : Addr) (ps : List Addr) (H' : Hp), GW n b g → H p = none → Same H H' → H' p = some (.tup (ps.map V.ref)) → PairsAt H' ps (waysL b g) → Q (.ref p) H'
def spRight : Sp := fun vs H Q _ => ∃ (n : Nat) (p : Addr) (ps : List Addr) (b g : Nat), vs = [.int (n : Int), .ref p] ∧ n < 2 ^ 133 ∧ GW n b g ∧ H p = some (.tup (ps.map V.ref)) ∧ PairsAt H ps (waysL b g) ∧ ∀ H', Same H H' → Q (.bl true) H'
end Pw
namespace Pw
open PySem PySem.Spec PyProof.Rows L2 SX TL
theorem room1 {k : Nat} {A : Around} (hr : Room k A) : A.units + 1 < cLine := by have := hr.un; omega
end Pw
namespace Pw
open PySem PySem.Spec PyProof.Rows L2 SX TL
theorem pg_tupB {X : Cx} {s : Shared} {H : Hp} {sc : Scope} {ev : Env} {fp : List Addr} {es : List Expr} {k : Nat} {pos : Pos} {t : TGs} {n : Nat} (hc : X.calm = true) (h : PGs (X.blk s H sc ev fp) es t)
    (hn : (assignEach es (X.blk s H sc ev fp).env).length = n := by rfl) (hst : (assignEach es (X.blk s H sc ev fp).env).findIdx? (·.1) = none := by rfl) : PG (X.blk s H sc ev fp) (.Tuple es k pos) (gTup X.K n t) :=
  pg_tup hc h hn hst
end Pw
namespace Pw
open PySem PySem.Spec PyProof.Rows L2 SX TL
section
variable {prog : Program} {w : World} {A : Around} {E : Value → Shared → Prop} {s : Shared}
theorem cat_tup0 {t b : Addr} {vs ws : List Value} {Q : Value → Shared → Prop} (ht : IsTup s.heap t vs.toArray) (hb : IsTup s.heap b ws.toArray) (hv : vs = []) (h : Q (.ref b) s) : wpAny (model prog w) A (binaryOp .Add (.ref t) (.ref b)) Q E s := by
  obtain ⟨⟨cls, dd, data, sl⟩, ho, hc, n, hd⟩ := id ht
  obtain ⟨⟨cls2, dd2, data2, sl2⟩, ho2, hc2, n2, hd2⟩ := id hb
  simp only at hc hd hc2 hd2
  subst hc hd hc2 hd2
  exact concat_meets ⟨_, ho, rfl⟩ ⟨_, ho2, rfl⟩ noFill_tuple_add seq_tuple_add PySem.F.slot_tuple_add PySem.F.entry_tuple_add (PySem.F.args_tuple_add_2 _ _)
    (tuple_addW0 t b vs.toArray ws.toArray n n2 dd dd2 sl sl2 (by simp [hv])) ⟨ho, ho2, h⟩
end
def rCatTA (K : PySem.W.Frag) : R2 := fun x y H Q => ∃ a b xs ys, x = .ref a ∧ y = .ref b ∧ SqT K H a xs ∧ SqT K H b ys ∧ ys ≠ [] ∧ xs.length + ys.length ≤ sizeLine ∧
  (xs = [] → Q (.ref b) H) ∧ (xs ≠ [] → ∀ p, H p = none → Q (.ref p) (upd H p (.tup (xs ++ ys))))
theorem op_catTA {X : Cx} : OpR X (binaryOp .Add) (rCatTA X.K) := by
  intro pins s σ H x y v u Q I rx ry h
  obtain ⟨a, b, xs, ys, rfl, rfl, ha, hb, hy, hz, q1, q2⟩ := h
  by_cases hx : xs = []
  · cases rx
    cases ry
    obtain ⟨its, r1, p1, _⟩ := I.tuple ha
    obtain ⟨its2, r2, p2, _⟩ := I.tuple hb
    exact cat_tup0 p1 p2 (r1.nil_iff.mpr hx) ⟨.ref b, H, I, rfl, q1 hx⟩
  · exact op_catT pins s σ H _ _ v u Q I rx ry ⟨a, b, xs, ys, rfl, rfl, ha, hb, hx, hz, fun z => absurd z hy, fun _ => q2 hx⟩
/-- rows of pairs put together -/
theorem PairsAt.app {H : Hp} {ps : List Addr} {ws : List (Nat × Nat)} {p : Addr} {w : Nat × Nat} (h : PairsAt H ps ws) (hp : H p = some (vp w)) : PairsAt H (ps ++ [p]) (ws ++ [w]) := h.push hp
theorem r_catTA {K : PySem.W.Frag} {H : Hp} {Q : VK} {a b p : Addr} {ps : List Addr} {ws : List (Nat × Nat)} {w : Nat × Nat} (ha : H a = some (.tup (ps.map V.ref))) (hw : PairsAt H ps ws) (hb : H b = some (.tup [.ref p])) (hp : H p = some (vp w)) (hl : ps.length ≤ 10000)
    (q : ∀ (c : Addr) (qs : List Addr) (H' : Hp), Same H H' → H' c = some (.tup (qs.map V.ref)) → PairsAt H' qs (ws ++ [w]) → Q (.ref c) H') : rCatTA K (.ref a) (.ref b) H Q := by
  refine ⟨a, b, _, _, rfl, rfl, SqT.of ha, SqT.of hb, by simp, ?_, fun z => ?_, fun _ l nl => ?_⟩
  · rw [List.length_map]
    exact Nat.le_trans (Nat.add_le_add_right hl 1) (by decide)
  · have e : ps = [] := List.map_eq_nil_iff.mp z
    subst e
    have e2 : ws = [] := List.length_eq_zero_iff.mp (by rw [← hw.1]; rfl)
    subst e2
    exact q b [p] H (Same.refl _) hb (PairsAt.push (ws := []) PairsAt.nil hp)
  · refine q l (ps ++ [p]) _ (same_new nl) ?_ ((hw.app hp).same (same_new nl))
    rw [upd_same, List.map_append]
    rfl
section
variable {td ty tx tv : TE} {σ : L2.St} {H : Hp} {Q : VK} {D : Ends}
theorem r_dget2 (h : td σ H fun x H1 => ∃ a, x = .ref a ∧ IsD H1 a ∧ ty σ H1 fun y H2 => tx σ H2 fun z H3 => ∃ o, DGet H3 a y o ∧ Q (o.getD z) H3) : tDGet2 td ty tx σ H Q := h
theorem r_dput (h : tv σ H fun v H1 => td σ H1 fun x H2 => ty σ H2 fun y H3 => ∃ a H4, x = .ref a ∧ DPut H3 a y v H4 ∧ D.nx σ H4) : sDPut td ty tv D σ H := h
theorem r_dnew (h : ∀ p H', H p = none → H' p = some (.dK []) → Same H H' → Q (.ref p) H') : tDNewK σ H Q := fun p hp => h p _ hp upd_same (same_new hp)
theorem r_dnew' (h : ∀ p, H p = none → Q (.ref p) (upd H p (.dK []))) : tDNewK σ H Q := h
end
/-! ### all powers below M, found base by base -/
structure TInv (T : Nat → List (Nat × Nat)) (M B E : Nat) : Prop where
  mem : ∀ v e c, (e, c) ∈ T v ↔ v < M ∧ 2 ≤ e ∧ c ^ e = v ∧ 2 ≤ c ∧ (c < B ∨ (c = B ∧ e < E))
  nodup : ∀ v, (T v).Nodup
theorem TInv.new (M : Nat) : TInv (fun _ => []) M 2 2 := ⟨fun v e c => ⟨fun h => (nomatch h), fun ⟨_, h1, _, h2, h3⟩ => by omega⟩, fun v => List.nodup_nil⟩
theorem TInv.push {T : Nat → List (Nat × Nat)} {M B E : Nat} (h : TInv T M B E) (b2 : 2 ≤ B) (e2 : 2 ≤ E) (hv : B ^ E < M) : TInv (fun u => if u = B ^ E then T (B ^ E) ++ [(E, B)] else T u) M B (E + 1) := by
  refine ⟨fun v e c => ?_, fun v => ?_⟩
  · by_cases z : v = B ^ E
    · subst z
      show (e, c) ∈ (if B ^ E = B ^ E then T (B ^ E) ++ [(E, B)] else T (B ^ E)) ↔ _
      rw [if_pos rfl, List.mem_append, h.mem]
      constructor
      · rintro (⟨h1, h2, h3, h4, h5⟩ | h5)
        · exact ⟨h1, h2, h3, h4, by omega⟩
        · have h6 : (e, c) = (E, B) := by simpa using h5
          cases h6
          exact ⟨hv, e2, rfl, b2, .inr ⟨rfl, by omega⟩⟩
      · rintro ⟨h1, h2, h3, h4, h5⟩
        by_cases w : c = B ∧ e = E
        · exact .inr (by rw [w.1, w.2]; exact List.mem_singleton.mpr rfl)
        · exact .inl ⟨h1, h2, h3, h4, by omega⟩
    · show (e, c) ∈ (if v = B ^ E then T (B ^ E) ++ [(E, B)] else T v) ↔ _
      rw [if_neg z, h.mem]
      constructor
      · rintro ⟨h1, h2, h3, h4, h5⟩
        exact ⟨h1, h2, h3, h4, by omega⟩
      · rintro ⟨h1, h2, h3, h4, h5⟩
        refine ⟨h1, h2, h3, h4, ?_⟩
        rcases h5 with h5 | ⟨h5, h6⟩
        · exact .inl h5
        · by_cases w : e = E
          · exact absurd (by rw [← h3, h5, w]) z
          · exact .inr ⟨h5, by omega⟩
  · by_cases z : v = B ^ E
    · subst z
      show (if B ^ E = B ^ E then T (B ^ E) ++ [(E, B)] else T (B ^ E)).Nodup
      rw [if_pos rfl]
      refine List.nodup_append.mpr ⟨h.nodup _, by simp, fun x hx y hy e => ?_⟩
      have hy2 : y = (E, B) := by simpa using hy
      rw [e, hy2] at hx
      have := (h.mem _ _ _).mp hx
      omega
    · show (if v = B ^ E then T (B ^ E) ++ [(E, B)] else T v).Nodup
      rw [if_neg z]
      exact h.nodup v
theorem TInv.next {T : Nat → List (Nat × Nat)} {M B E : Nat} (h : TInv T M B E) (b2 : 2 ≤ B) (hv : M ≤ B ^ E) : TInv T M (B + 1) 2 := by
  refine ⟨fun v e c => ?_, h.nodup⟩
  rw [h.mem]
  constructor
  · rintro ⟨h1, h2, h3, h4, h5⟩
    exact ⟨h1, h2, h3, h4, by omega⟩
  · rintro ⟨h1, h2, h3, h4, h5⟩
    refine ⟨h1, h2, h3, h4, ?_⟩
    rcases h5 with h5 | ⟨h5, h6⟩
    · by_cases w : c = B
      · refine .inr ⟨w, Nat.lt_of_not_le fun z => ?_⟩
        have := Nat.pow_le_pow_right (show 0 < B by omega) z
        rw [← w, h3, w] at this
        omega
      · exact .inl (by omega)
    · omega
theorem TInv.apart {T : Nat → List (Nat × Nat)} {M B E : Nat} (h : TInv T M B E) (v : Nat) : (T v).Pairwise fun a b => a.1 ≠ b.1 := by
  refine List.Pairwise.imp_of_mem (R := fun a b => a ≠ b) (fun {x y} mx my hne e => hne ?_) (h.nodup v)
  obtain ⟨a, b⟩ := x
  obtain ⟨c, d⟩ := y
  have e' : a = c := e
  subst e'
  have hx := (h.mem _ _ _).mp mx
  have hy := (h.mem _ _ _).mp my
  have : b = d := (Nat.pow_left_inj (show a ≠ 0 by omega)).mp (by rw [hx.2.2.1, hy.2.2.1])
  rw [this]
theorem divs_asc (g i : Nat) : (divs g i).Pairwise fun a b => a < b := by
  unfold divs
  refine List.Pairwise.filter _ (List.Pairwise.map _ (R := fun a b => a < b) (fun a b h => by show 2 + a < 2 + b; omega) List.pairwise_lt_range)
/-- what the table holds at v, sorted and turned, are all ways of v -/
theorem TInv.ways {T : Nat → List (Nat × Nat)} {M v b g : Nat} {zs : List (Nat × Nat)} (h : TInv T M 60 2) (hM : M ≤ 3100) (hv : v < M) (v2 : 2 ≤ v) (hgw : GW v b g) (hz : zs.Perm (T v)) (ha : Asc zs) : zs.map (fun z => (z.2, z.1)) = waysL b g := by
  have e : zs = (waysL b g).map fun z => (z.2, z.1) := by
    refine asc_uniq ha ?_ fun x => ?_
    · unfold Asc waysL
      rw [List.map_map]
      exact List.Pairwise.map _ (R := fun a b => a < b) (fun a b h => h) (divs_asc g (g - 1))
    · obtain ⟨e, c⟩ := x
      rw [hz.mem_iff, h.mem]
      constructor
      · rintro ⟨_, h2, h3, h4, h5⟩
        obtain ⟨h6, h7⟩ := hgw.base v2 h2 h3
        have h8 := Nat.le_of_dvd hgw.pos h6
        exact List.mem_map.mpr ⟨(c, e), waysL_mem.mpr ⟨h2, by show e < 2 + (g - 1); omega, h6, h7⟩, rfl⟩
      · intro hm
        obtain ⟨⟨c', e'⟩, hm2, he⟩ := List.mem_map.mp hm
        obtain ⟨rfl, rfl⟩ : e' = e ∧ c' = c := ⟨congrArg Prod.fst he, congrArg Prod.snd he⟩
        obtain ⟨h1, h2, h3, h4⟩ := waysL_mem.mp hm2
        have h1' : 2 ≤ e' := h1
        have h4' : c' = b ^ (g / e') := h4
        have hp : c' ^ e' = v := by
          rw [h4', ← Nat.pow_mul, Nat.div_mul_cancel h3]
          exact hgw.pow
        have c2 := pow_base2 (show 1 ≤ e' by omega) v2 hp
        refine ⟨hv, h1', hp, c2, .inl (Nat.lt_of_not_le fun z => ?_)⟩
        have h5 : c' ^ 2 ≤ c' ^ e' := Nat.pow_le_pow_right (by omega) h1'
        have h6 := Nat.pow_le_pow_left z 2
        omega
  rw [e, List.map_map]
  have : (fun z : Nat × Nat => (z.2, z.1)) ∘ (fun z : Nat × Nat => (z.2, z.1)) = id := rfl
  rw [this, List.map_id]
structure DuesW (H : Hp) (D : Addr) (xs : List Nat) (m : Nat) : Prop where
  ex : ∃ ps : List Addr, H D = some (.lst (ps.map V.ref)) ∧ ps.length = m ∧ ∀ (i n : Nat) (p : Addr), xs[i]? = some n → ps[i]? = some p → ∃ (b g : Nat) (qs : List Addr), GW n b g ∧ H p = some (.tup (qs.map V.ref)) ∧ PairsAt H qs (waysL b g)
theorem DuesW.same {H H' : Hp} {D : Addr} {xs : List Nat} {m : Nat} (d : DuesW H D xs m) (s : Same H H') : DuesW H' D xs m := by
  obtain ⟨ps, h1, h2, h3⟩ := d.ex
  exact ⟨ps, s _ _ h1, h2, fun i n p a b => let ⟨x, g, qs, h4, h5, h6⟩ := h3 i n p a b; ⟨x, g, qs, h4, s _ _ h5, h6.same s⟩⟩
theorem DuesW.push {H : Hp} {D p : Addr} {ys : List Nat} {i b g : Nat} {qs : List Addr} (d : DuesW H D (ys.take i) i) (hi : i < ys.length) (hgw : GW ys[i] b g) (hp : H p = some (.tup (qs.map V.ref))) (hP : PairsAt H qs (waysL b g)) :
    ∃ ps : List Addr, H D = some (.lst (ps.map V.ref)) ∧ ps.length = i ∧ DuesW (upd H D (.lst (ps.map V.ref ++ [V.ref p]))) D (ys.take (i + 1)) (i + 1) := by
  obtain ⟨ps, h1, h2, h3⟩ := d.ex
  refine ⟨ps, h1, h2, ps ++ [p], by rw [upd_same, List.map_append]; rfl, by rw [List.length_append, h2]; rfl, fun j n p' hj hp' => ?_⟩
  have kp : ∀ {a : Addr} {xs : List V} {o : HO}, H a = some (.tup xs) → upd H D o a = some (.tup xs) := fun {a xs o} e => by
    rw [upd_ne (ne_of e h1 (by intro z; cases z))]
    exact e
  rcases Nat.lt_trichotomy j i with z | z | z
  · rw [List.getElem?_append_left (by omega)] at hp'
    rw [List.getElem?_take, if_pos (by omega)] at hj
    obtain ⟨b', g', qs', h4, h5, h6⟩ := h3 j n p' (by rw [List.getElem?_take, if_pos z]; exact hj) hp'
    exact ⟨b', g', qs', h4, kp h5, h6.upd h1⟩
  · subst z
    rw [List.getElem?_append_right (by omega), h2, Nat.sub_self] at hp'
    rw [List.getElem?_take, if_pos (by omega), List.getElem?_eq_getElem hi] at hj
    cases hj
    cases hp'
    exact ⟨b, g, qs, hgw, kp hp, hP.upd h1⟩
  · rw [List.getElem?_take, if_neg (by omega)] at hj
    cases hj
end Pw
namespace Pw
open PySem PySem.Spec PyProof.Rows L2 SX TL
theorem DT.mono {H : Hp} {d : Addr} {T : Nat → List (Nat × Nat)} {N N' : Nat} (h : DT H d T N) (l : N ≤ N') : DT H d T N' := by
  obtain ⟨kvs, h1, h2, h3⟩ := h
  exact ⟨kvs, h1, Nat.le_trans h2 l, h3⟩
/-- what the table holds is short -/
theorem PairsAt.len_le {H : Hp} {ps : List Addr} {ws : List (Nat × Nat)} {n : Nat} (h : PairsAt H ps ws) (l : ws.length ≤ n) : ps.length ≤ n := by rw [h.1]; exact l
/-- each base has one exponent at a number at most -/
theorem TInv.len {T : Nat → List (Nat × Nat)} {M B E : Nat} (h : TInv T M B E) (hM : M ≤ 3100) (hB : B ≤ 60) (v : Nat) : (T v).length ≤ 1000 := by
  have hs : ∀ x ∈ T v, x ∈ (List.range 12).flatMap fun e => (List.range 61).map fun c => (e, c) := fun x m => by
    obtain ⟨e, c⟩ := x
    obtain ⟨h1, h2, h3, h4, h5⟩ := (h.mem _ _ _).mp m
    have he : e < 12 := by
      refine Nat.lt_of_not_le fun z => ?_
      have h6 : (2 : Nat) ^ 12 ≤ 2 ^ e := Nat.pow_le_pow_right (by decide) z
      have h7 : (2 : Nat) ^ e ≤ c ^ e := Nat.pow_le_pow_left h4 e
      omega
    refine List.mem_flatMap.mpr ⟨e, List.mem_range.mpr he, List.mem_map.mpr ⟨c, List.mem_range.mpr (by omega), rfl⟩⟩
  have hl := (h.nodup v).length_le_of_subset hs
  have e : ((List.range 12).flatMap fun e => (List.range 61).map fun c => (e, c)).length = 732 := by decide +kernel
  omega
end Pw
namespace Pw
open PySem PySem.Spec PyProof.Rows L2 SX TL
theorem DT.getx {H : Hp} {d z : Addr} {T : Nat → List (Nat × Nat)} {N : Nat} (h : DT H d T N) (v : Nat) (hz : H z = some (.tup [])) :
    ∃ (o : Option V) (p : Addr) (ps : List Addr), DGet H d (.int (v : Int)) o ∧ o.getD (.ref z) = .ref p ∧ H p = some (.tup (ps.map V.ref)) ∧ PairsAt H ps (T v) := by
  obtain ⟨o, h1, h2⟩ := h.get (v := v) (Q := fun x H' => ∃ (p : Addr) (ps : List Addr), x = .ref p ∧ H' p = some (.tup (ps.map V.ref)) ∧ PairsAt H' ps (T v)) hz fun p ps a b => ⟨p, ps, rfl, a, b⟩
  obtain ⟨p, ps, a, b, c⟩ := h2
  exact ⟨o, p, ps, h1, a, b, c⟩
end Pw

namespace Pw
open PySem PySem.Spec PyProof.Rows L2 SX TL
/-- a seed: what is left of the cell, whether it is a great one, how many were drawn, the cell's rest -/
structure SeedAt (H : Hp) (d : Addr) (n : Nat) : Prop where
  ex : ∃ a f t c : Int, H d = some (.lst [.int a, .int f, .int t, .int c]) ∧ 0 ≤ a ∧ 0 ≤ t ∧ t ≤ n ∧ 0 ≤ c ∧ c < 2 ^ 40
theorem SeedAt.mono {H : Hp} {d : Addr} {n n' : Nat} (D : SeedAt H d n) (h : n ≤ n') : SeedAt H d n' := by
  obtain ⟨a, f, t, c, h1, h2, h3, h4, h5⟩ := D.ex
  exact ⟨a, f, t, c, h1, h2, h3, by omega, h5⟩
theorem SeedAt.same {H H' : Hp} {d : Addr} {n : Nat} (D : SeedAt H d n) (s : Same H H') : SeedAt H' d n := by
  obtain ⟨a, f, t, c, h1, h2⟩ := D.ex
  exact ⟨a, f, t, c, s _ _ h1, h2⟩
theorem SeedAt.ne {H : Hp} {d p : Addr} {n : Nat} (D : SeedAt H d n) (hp : H p = none) : p ≠ d := by
  obtain ⟨a, f, t, c, h1, _⟩ := D.ex
  exact (ne_of_none h1 hp).symm
theorem SeedAt.upd {H : Hp} {d p : Addr} {n : Nat} {o : HO} (D : SeedAt H d n) (h : p ≠ d) : SeedAt (L2.upd H p o) d n := by
  obtain ⟨a, f, t, c, h1, h2⟩ := D.ex
  exact ⟨a, f, t, c, by rw [upd_ne (Ne.symm h)]; exact h1, h2⟩
def spSeed : Sp := fun vs H Q _ => ∃ cell : Int, vs = [.int cell] ∧ ∀ (d : Addr) (H' : Hp), H d = none → Same H H' → SeedAt H' d 0 → Q (.ref d) H'
def spDraw : Sp := fun vs H Q _ => ∃ (d : Addr) (most : Int) (n : Nat), vs = [.ref d, .int most] ∧ 0 < most ∧ most.natAbs < 2 ^ 8000 ∧ SeedAt H d n ∧ n ≤ 2 ^ 50 ∧
  ∀ (r : Int) (H' : Hp), 0 ≤ r → r < most → Keep d H H' → SeedAt H' d (n + 1) → Q (.int r) H'
def spFolded (K : PySem.W.Frag) : Sp := fun vs H Q _ => ∃ (a : Addr) (ns : List Int), vs = [.ref a] ∧ SqL K H a (ns.map V.int) ∧ ns.length ≤ 63 ∧ ∀ r : Int, Q (.int r) H
def spHRoot : Sp := fun vs H Q _ => ∃ n e : Nat, vs = [.int (n : Int), .int (e : Int)] ∧ n < 2 ^ 140 ∧ 1 ≤ e ∧ e ≤ 1000 ∧ ∀ r : Nat, Pm.IsRoot n e r → Q (.int (r : Int)) H
def spNumber8 : Sp := fun vs H Q _ => ∃ (d : Addr) (n : Nat), vs = [.ref d] ∧ SeedAt H d n ∧ n ≤ 2 ^ 47 ∧ ∀ (r : Nat) (H' : Hp), r ≤ 10 ^ 40 → Keep d H H' → SeedAt H' d (n + 50) → Q (.int (r : Int)) H'
end Pw

namespace Pm
theorem root_exi (n e : Nat) (he : 1 ≤ e) : ∃ r, IsRoot n e r := by
  have h : ∀ k, (∃ r, r ^ e ≤ n ∧ n < (r + 1) ^ e) ∨ k ^ e ≤ n := fun k => by
    induction k with
    | zero => exact .inr (by rw [Nat.zero_pow (by omega)]; exact Nat.zero_le _)
    | succ k ih =>
      rcases ih with h | h
      · exact .inl h
      · rcases Nat.lt_or_ge n ((k + 1) ^ e) with z | z
        · exact .inl ⟨k, h, z⟩
        · exact .inr z
  rcases h (n + 1) with h | h
  · exact h
  · have : n + 1 ≤ (n + 1) ^ e := Nat.le_self_pow (by omega) _
    omega
noncomputable def Rt (n e : Nat) : Nat := @dite _ (1 ≤ e) (Nat.decLe _ _) (fun h => Classical.choose (root_exi n e h)) fun _ => 0
theorem Rt_is {n e : Nat} (he : 1 ≤ e) : IsRoot n e (Rt n e) := by
  unfold Rt
  rw [dif_pos he]
  exact Classical.choose_spec (root_exi n e he)
theorem Rt_eq {n e r : Nat} (he : 1 ≤ e) (h : IsRoot n e r) : Rt n e = r := (Rt_is he).uniq h
theorem Rt_one {n e : Nat} (he : 1 ≤ e) (hn : 1 ≤ n) (h : n < 2 ^ e) : Rt n e = 1 := Rt_eq he ⟨by rw [Nat.one_pow]; exact hn, h⟩
/-- the count of the powers to n -/
noncomputable def cntP (n : Nat) : Nat := if n = 0 then 0 else 1 + S (fun m => I (2 ≤ m ∧ IsPow m)) (n + 1)
/-! ### the signs -/
def sgIn (n : Nat) : Nat → Nat × Int
  | 0 => (n, 1)
  | m + 1 => if (sgIn n m).1 % (2 + m) = 0 then ((sgIn n m).1 / (2 + m), if (sgIn n m).1 / (2 + m) % (2 + m) = 0 then 0 else 0 - (sgIn n m).2) else sgIn n m
def sgF : Nat → Int
  | 0 => 0
  | 1 => 1
  | n + 2 => (sgIn (n + 2) (n + 1)).2
/-- a second way to the same, for the kernel -/
def sumDv (g : Nat) : Nat → Int
  | 0 => 0
  | k + 1 => if 2 ≤ k ∧ k ∣ g then sumDv g k + sgF k else sumDv g k
def sgGo (n : Nat) : Nat → Nat → Nat → Int → Int
  | 0, _, _, s => s
  | f + 1, p, l, s => if l % p = 0 then sgGo n f (p + 1) (l / p) (if l / p % p = 0 then 0 else 0 - s) else sgGo n f (p + 1) l s
theorem sgGo_eq (n : Nat) : ∀ f m : Nat, sgGo n f (2 + m) (sgIn n m).1 (sgIn n m).2 = (sgIn n (m + f)).2
  | 0, m => rfl
  | f + 1, m => by
    have h := sgGo_eq n f (m + 1)
    rw [show m + (f + 1) = m + 1 + f by omega, ← h]
    show (if (sgIn n m).1 % (2 + m) = 0 then sgGo n f (2 + m + 1) ((sgIn n m).1 / (2 + m)) (if (sgIn n m).1 / (2 + m) % (2 + m) = 0 then 0 else 0 - (sgIn n m).2) else sgGo n f (2 + m + 1) (sgIn n m).1 (sgIn n m).2) = _
    have e : sgIn n (m + 1) = if (sgIn n m).1 % (2 + m) = 0 then ((sgIn n m).1 / (2 + m), if (sgIn n m).1 / (2 + m) % (2 + m) = 0 then 0 else 0 - (sgIn n m).2) else sgIn n m := rfl
    rw [e]
    by_cases z : (sgIn n m).1 % (2 + m) = 0
    · rw [if_pos z, if_pos z]; rfl
    · rw [if_neg z, if_neg z]; rfl
def sgK : Nat → Int
  | 0 => 0
  | 1 => 1
  | n + 2 => sgGo (n + 2) (n + 1) 2 (n + 2) 1
theorem sgK_eq : ∀ n, sgK n = sgF n
  | 0 => rfl
  | 1 => rfl
  | n + 2 => by
    have h := sgGo_eq (n + 2) (n + 1) 0
    rw [Nat.zero_add] at h
    exact h
def sgTab : List Int := (List.range 141).map sgK
def sumTab (t : List Int) (g : Nat) : Nat → Int
  | 0 => 0
  | k + 1 => sumTab t g k + (if 2 ≤ k ∧ g % k = 0 then t.getD k 0 else 0)
def okTab : Bool := let t := sgTab; (List.range 141).all fun g => decide (g < 2) || decide (sumTab t g 141 = -1)
theorem okTab_true : okTab = true := by decide +kernel
theorem sumTab_eq (g : Nat) : ∀ k : Nat, k ≤ 141 → sumTab sgTab g k = SI (fun e => if 2 ≤ e ∧ e ∣ g then sgF e else 0) k
  | 0, _ => rfl
  | k + 1, h => by
    show sumTab sgTab g k + (if 2 ≤ k ∧ g % k = 0 then sgTab.getD k 0 else 0) = SI _ k + (if 2 ≤ k ∧ k ∣ g then sgF k else 0)
    rw [sumTab_eq g k (by omega)]
    have e : sgTab.getD k 0 = sgF k := by
      unfold sgTab
      rw [List.getD_eq_getElem?_getD, List.getElem?_map, List.getElem?_range (by omega)]
      exact sgK_eq k
    by_cases z : 2 ≤ k ∧ k ∣ g
    · rw [if_pos z, if_pos ⟨z.1, Nat.mod_eq_zero_of_dvd z.2⟩, e]
    · rw [if_neg z, if_neg fun w => z ⟨w.1, Nat.dvd_of_mod_eq_zero w.2⟩]
theorem signs_ok : Signs sgF 141 := fun g g2 gK => by
  have h := okTab_true
  unfold okTab at h
  have h2 := List.all_eq_true.mp h g (List.mem_range.mpr gK)
  have h3 : sumTab sgTab g 141 = -1 := by
    rcases Bool.or_eq_true _ _ ▸ h2 with w | w
    · exact absurd (of_decide_eq_true w) (by omega)
    · exact of_decide_eq_true w
  rw [← sumTab_eq g 141 (Nat.le_refl _)]
  exact h3
/-- in and out by the exponents below E, and what it comes to -/
noncomputable def inOut (n E : Nat) : Int := 1 - SI (fun e => if 2 ≤ e then sgF e * ((Rt n e - 1 : Nat) : Int) else 0) E
theorem inOut_end {n E : Nat} (hn : 1 ≤ n) (h : n < 2 ^ E) (hE : 2 ≤ E) (hE2 : E ≤ 141) (h141 : n < 2 ^ 141) : inOut n E = (cntP n : Int) := by
  have up : ∀ d : Nat, inOut n (E + d) = inOut n E := fun d => by
    induction d with
    | zero => rfl
    | succ d ih =>
      rw [← ih]
      show 1 - (SI _ (E + d) + (if 2 ≤ E + d then sgF (E + d) * ((Rt n (E + d) - 1 : Nat) : Int) else 0)) = 1 - SI _ (E + d)
      have h2 : Rt n (E + d) = 1 := Rt_one (by omega) hn (Nat.lt_of_lt_of_le h (Nat.pow_le_pow_right (by decide) (by omega)))
      rw [h2, if_pos (by omega)]
      simp
  rw [← up (141 - E), show E + (141 - E) = 141 by omega]
  unfold inOut
  rw [in_out (n := n) (K := 141) h141 signs_ok fun e e2 _ => Rt_is (by omega)]
  unfold cntP
  rw [if_neg (by omega)]
  push_cast
  omega
theorem sgIn_b (n : Nat) : ∀ m, (sgIn n m).2.natAbs ≤ 1
  | 0 => Nat.le_refl 1
  | m + 1 => by
    have ih := sgIn_b n m
    have e : sgIn n (m + 1) = if (sgIn n m).1 % (2 + m) = 0 then ((sgIn n m).1 / (2 + m), if (sgIn n m).1 / (2 + m) % (2 + m) = 0 then 0 else 0 - (sgIn n m).2) else sgIn n m := rfl
    rw [e]
    by_cases z : (sgIn n m).1 % (2 + m) = 0
    · rw [if_pos z]
      by_cases w : (sgIn n m).1 / (2 + m) % (2 + m) = 0
      · show (if (sgIn n m).1 / (2 + m) % (2 + m) = 0 then (0 : Int) else 0 - (sgIn n m).2).natAbs ≤ 1
        rw [if_pos w]; decide
      · show (if (sgIn n m).1 / (2 + m) % (2 + m) = 0 then (0 : Int) else 0 - (sgIn n m).2).natAbs ≤ 1
        rw [if_neg w]; omega
    · rw [if_neg z]; exact ih
theorem sgF_b : ∀ n, (sgF n).natAbs ≤ 1
  | 0 => by decide
  | 1 => by decide
  | n + 2 => sgIn_b _ _
theorem inOut_succ {n E r : Nat} (hE : 2 ≤ E) (hr : IsRoot n E r) (h1 : 1 ≤ r) : inOut n (E + 1) = inOut n E - sgF E * ((r : Int) - 1) := by
  show 1 - (SI _ E + (if 2 ≤ E then sgF E * ((Rt n E - 1 : Nat) : Int) else 0)) = 1 - SI _ E - _
  rw [if_pos hE, Rt_eq (by omega) hr, show ((r - 1 : Nat) : Int) = (r : Int) - 1 by omega]
  omega
end Pm
namespace Pw
open PySem PySem.Spec PyProof.Rows L2 SX TL
def sgRow (i : Nat) : List Int := (List.range 142).map fun j => if j < 2 + i then Pm.sgF j else 0
theorem sgRow_at {i E : Nat} (h : E < 2 + i) (h2 : E < 142) : (sgRow i)[E]? = some (Pm.sgF E) := by
  unfold sgRow
  rw [List.getElem?_map, List.getElem?_range h2, Option.map_some, if_pos h]
theorem sgRow_set {i : Nat} (h : i < 139) : (sgRow i).set (2 + i) (Pm.sgF (2 + i)) = sgRow (i + 1) := by
  refine List.ext_getElem? fun j => ?_
  unfold sgRow
  rw [List.getElem?_set, List.length_map, List.length_range]
  by_cases z : 2 + i = j
  · subst z
    rw [if_pos rfl, if_pos (by omega), List.getElem?_map, List.getElem?_range (by omega), Option.map_some, if_pos (by omega)]
  · rw [if_neg z, List.getElem?_map, List.getElem?_map]
    by_cases w : j < 142
    · rw [List.getElem?_range w, Option.map_some, Option.map_some]
      by_cases u : j < 2 + i
      · rw [if_pos u, if_pos (by omega)]
      · rw [if_neg u, if_neg (by omega)]
    · rw [List.getElem?_eq_none (by rw [List.length_range]; omega)]
      rfl
def spSigns : Sp := fun vs H Q _ => vs = [.int 140] ∧ ∀ (p : Addr) (H' : Hp), H p = none → Same H H' → H' p = some (.lst ((sgRow 139).map V.int)) → Q (.ref p) H'
def spCount8 : Sp := fun vs H Q _ => ∃ (z : Int) (p : Addr), vs = [.int z, .ref p] ∧ z < 2 ^ 133 ∧ H p = some (.lst ((sgRow 139).map V.int)) ∧ Q (.int (Pm.cntP z.toNat : Nat)) H
end Pw

namespace Pw
open PySem PySem.Spec PyProof.Rows L2 SX TL
/-! ### sum of a tuple of ints -/
section
variable {prog : Program} {w : World} {A : Around} {E : Value → Shared → Prop} {s : Shared} {l : Addr} {its : List Value} {ns : List Int} {Q : Value → Shared → Prop}
theorem sum_rawT (hh : A.handled = none) (hl : IsTup s.heap l its.toArray) (hi : IntsAre its ns)
    (h : ∀ h' tk t', (∀ b o, s.heap.get? b = some o → h'.get? b = some o) → Q (.int ns.sum t') { s with heap := h', toks := tk }) : wpAny (model prog w) A (call (.builtin "sum") [.ref l]) Q E s := by
  obtain ⟨xs, e⟩ := hi.allInts.items
  have hn : numsOf (intItems xs).toList = ns := by rw [← e]; exact hi.numsOf
  rw [nums_intItems] at hn
  rw [e] at hl
  have ht : s.heap.IsTuple l (intItems xs) := hl
  have hlt : l < s.heap.objs.size := by obtain ⟨_, e, _⟩ := ht; exact Heap.lt_size e
  refine PySem.call_sum_walkG (wpAny_pyIter_tuple ht ⟨_, _, _, _, _, _, numAt xs, rfl, Walks.tuple (A := A.in1) hh _ l (Nat.ne_of_lt hlt) (intItems xs), ⟨⟨_, Heap.get?_push_size _ rfl, rfl, rfl⟩, ht.push _⟩, fun b hb => ?_, (fun _ _ => intItems_at), fun h' tk t' hk => ?_⟩)
  · show b < (s.heap.push _).objs.size
    rw [Heap.size_push]
    rcases List.mem_cons.mp hb with rfl | hb
    · exact Nat.lt_succ_self _
    · rcases List.mem_cons.mp hb with rfl | hb
      · exact Nat.lt_succ_of_lt hlt
      · cases hb
  · have h2 := h h' tk t' fun b o eb => hk b o (fun hb => absurd (Heap.lt_size eb) ((List.mem_singleton.mp hb) ▸ Nat.lt_irrefl _)) (Heap.get?_push_of_some _ eb)
    have hsz : (intItems xs).size = xs.size := by simp [intItems]
    rw [hsz, preSum_eq, List.take_of_length_le (by simp), hn]
    exact h2
end
def rSumT (K : PySem.W.Frag) : List V → Hp → VK → Prop := fun vs H Q => ∃ (a : Addr) (ns : List Int), vs = [V.ref a] ∧ SqT K H a (ns.map V.int) ∧ Q (.int ns.sum) H
theorem cr_sumT {X : Cx} (hc : X.calm = true) : CallR X (.builtin "sum") (rSumT X.K) := by
  intro pins s σ H vs us Q I r h
  obtain ⟨a, ns, rfl, hs, q⟩ := h
  obtain ⟨its, rv, hl, _⟩ := I.tuple hs
  rw [Vals.ref1 r]
  exact sum_rawT (I.ok.hd hc) hl rv.ints fun h' tk t' hk => ⟨.int _, H, I.kept hk, ⟨_, rfl⟩, q⟩
theorem r_sumT {K : PySem.W.Frag} {H : Hp} {Q : VK} {a : Addr} {ns : List Int} (h : SqT K H a (ns.map V.int)) (q : Q (.int ns.sum) H) : rSumT K [.ref a] H Q := ⟨a, ns, rfl, h, q⟩
/-! ### sorted of a dict with ints as keys, any number of them -/
def rSortedDA (P : PySem.W.Frag) : List V → Hp → VK → Prop := fun xs H Q => ∃ (a : Addr) (kvs : List (Key × V)) (ks : List Int), xs = [.ref a] ∧ Rd H a (.dK kvs) ∧ kvs.map (·.1) = ks.map Sum.inl ∧ ks.length ≤ 1000000 ∧
    ∀ (ys : List Int) (p : Addr), ys.Perm ks → ys.Pairwise (· ≤ ·) → H p = none → Q (.ref p) (upd H p (.lst (ys.map V.int)))
theorem cr_sortedDA {X : Cx} (hcalm : X.calm = true) : CallR X (.builtin "sorted") (rSortedDA X.K) := by
  intro pins s σ H xs us Q I r q
  obtain ⟨a, kvs, ks, ex, hd, hks, hM, q⟩ := q
  subst ex
  obtain ⟨u, eu, rx⟩ := vals1 r
  subst eu
  cases rx
  obtain ⟨z, lo, vs, rel, dd⟩ := dk_rd I.hok hd
  obtain ⟨ep, hat⟩ := dd.dictAt
  have hkeys : vs.map (·.1) = ks.map Sum.inl := rel.keys.symm.trans hks
  have hl : vs.length = ks.length := by
    have e := congrArg List.length hkeys
    rw [List.length_map, List.length_map] at e
    exact e
  have hM2 : ks.length ≤ sizeLine := Nat.le_trans hM (by decide)
  have h16 : vs.length ≤ sizeLine := by rw [hl]; exact hM2
  refine Calls.call_function_entry PyProof.Rows.kind_sorted PyProof.Rows.plain_sorted PyProof.Rows.entry_sorted (PyProof.Rows.args_sorted1 _) ?_
  unfold Builtin.«sorted»
  refine wpAny_bind (m := checkCount "sorted" 1 1 _) (wpAny_pure ?_)
  refine wpAny_bind (PySem.W.kdu_collect (A := X.A.in1) (PySem.W.kdl_dict (knd := mixKind X.prog X.w) (kvs := vs) (ep := ep) lo) (I.ok.hd hcalm) hat h16 fun h' tk acc hk hacc => ?_)
  have hal : acc.toList.length = ks.length := by rw [Array.length_toList, hacc.1, hl]
  have hS : IntsAre acc.toList ks := ints_each hal fun j v e => by
    obtain ⟨k, x, e1, e2⟩ := hacc.2 j v (by rw [← Array.getElem?_toList]; exact e)
    have e3 : (vs.map (·.1))[j]? = some k := by rw [List.getElem?_map, e1]; rfl
    rw [hkeys, List.getElem?_map] at e3
    cases e4 : ks[j]? with
    | none => rw [e4] at e3; cases e3
    | some y =>
      rw [e4] at e3
      have e5 : Sum.inl y = k := Option.some.inj e3
      subst e5
      rcases keyIs_shape (show keyIs (Sum.inl y) v = true from e2) with ⟨i, t, ek, ev⟩ | ⟨z, t, ek, ev⟩
      · cases ek
        exact ⟨y, t, rfl, ev⟩
      · cases ek
  have I1 : Inv X pins σ H { s with heap := h', toks := tk } := I.kept hk
  refine wpAny_bind (wpAny_newList ?_ (by rw [hal]; exact hM2))
  have hoL : (h'.push (seqObj "list" acc.toList.toArray 0)).get? h'.objs.size = some (seqObj "list" acc.toList.toArray 0) := Heap.get?_push_size _ rfl
  show wpAny _ _ _ _ _ { s with heap := h'.push (seqObj "list" acc.toList.toArray 0), toks := tk }
  refine wpAny_bind (wpAny_holding (wpAny_call_entry PyProof.Rows.slot_list_sort ⟨_, hoL, rfl⟩ PyProof.Rows.entry_list_sort
    (SrtO.list_sort_ord (s := { s with heap := h'.push (seqObj "list" acc.toList.toArray 0), toks := tk }) SrtO.swo_int hoL (by rw [hal]; exact hM2) (fun h2 => SrtO.ints_sortable hS h2) fun out h1 h2 => ⟨_, rfl, ?_⟩) (PyProof.Rows.args_list_sort _)))
  obtain ⟨g1, g2, g3⟩ := SrtO.ints_out hS h1 h2
  obtain ⟨e', he'⟩ := PyProof.Rows.sortedHeap_at (vs := acc.toList) (out := out.toArray) hoL
  have hlen : ((out.map SrtO.iv).map V.int).length ≤ sizeLine := by
    rw [List.length_map, g2.length_eq]
    exact hM2
  refine wpAny_pure ⟨_, rfl, .ref h'.objs.size, upd H h'.objs.size (.lst ((out.map SrtO.iv).map V.int)), I1.laid (t' := tk) (fun b u e => ?_) (Nat.le_refl _)
    (show ObjOk X.prog X.w _ _ _ (.lst ((out.map SrtO.iv).map V.int)) from ⟨hlen, out, e', vals_of_ints g1, he'⟩), rfl, q (out.map SrtO.iv) _ g2 g3 (I1.hok.fresh (Nat.le_refl _))⟩
  have hb : b < h'.objs.size := Heap.lt_size e
  rw [PyProof.Rows.sortedHeap_old (Nat.ne_of_lt hb) (by rw [size_push']; exact Nat.lt_succ_of_lt hb)]
  exact Heap.get?_push_of_some _ e
/-! ### ranges with a step up -/
theorem small_up {a b c : Int} (ha : 0 ≤ a) (ha' : a < 2 ^ 61) (hb : 0 ≤ b) (hb' : b < 2 ^ 61) (hc : 0 < c) (hc' : c < 2 ^ 30) : Builtin.Range.small a b c = true := by
  unfold Builtin.Range.small Builtin.Range.rangeSize
  simp only [Builtin.Range.rangeFitsLong, Bool.and_eq_true, Bool.or_eq_true, decide_eq_true_eq, beq_iff_eq]
  rw [if_pos hc]
  by_cases h : a < b
  · rw [if_pos h]
    have h1 : 0 ≤ (b - a - 1) / c := Int.ediv_nonneg (by omega) (by omega)
    have h2 : (b - a - 1) / c * c ≤ b - a - 1 := Int.ediv_mul_le _ (by omega)
    have h3 : (b - a - 1) / c ≤ b - a - 1 := Int.ediv_le_self _ (by omega)
    generalize (b - a - 1) / c = q at *
    refine ⟨⟨⟨⟨⟨by omega, by omega⟩, by omega, by omega⟩, by omega, by omega⟩, by omega, by omega⟩, .inr ?_⟩
    rw [if_pos hc, decide_eq_true (by omega), decide_eq_true (by omega)]
    rfl
  · rw [if_neg h]
    exact ⟨⟨⟨⟨⟨by omega, by omega⟩, by omega, by omega⟩, by omega, by omega⟩, by omega, by omega⟩, .inl rfl⟩
theorem RgC.up {a b c : Nat} (ha : a < 2 ^ 60) (hb : b < 2 ^ 60) (hc : 0 < c) (hc' : c < 2 ^ 30) : RgC (a : Int) (b : Int) (c : Int) (if a < b then (b - a - 1) / c + 1 else 0) := by
  refine ⟨by omega, by omega, small_up (by omega) (by omega) (by omega) (by omega) (by omega) (by omega), ?_⟩
  unfold Builtin.Range.rangeSize
  rw [if_pos (by omega)]
  by_cases h : a < b
  · rw [if_pos (by omega), if_pos h]
    have e : (b : Int) - a - 1 = ((b - a - 1 : Nat) : Int) := by omega
    rw [e]
    push_cast
    rfl
  · rw [if_neg (by omega), if_neg h]
    rfl
theorem rg_mult {M e : Nat} (he : 1 ≤ e) (hM : e ≤ M) : (if 2 * e < M + 1 then (M + 1 - 2 * e - 1) / e + 1 else 0) = M / e - 1 := by
  by_cases h : 2 * e < M + 1
  · rw [if_pos h]
    obtain ⟨r, rfl⟩ : ∃ r, M = r + e * 2 := ⟨M - 2 * e, by omega⟩
    rw [Nat.add_mul_div_left _ _ (by omega), show r + e * 2 + 1 - 2 * e - 1 = r by omega]
    generalize r / e = c
    omega
  · rw [if_neg h]
    have h1 : M / e < 2 := (Nat.div_lt_iff_lt_mul (by omega)).mpr (by omega)
    omega
theorem lc_rangeC {lo c : Int} {n : Nat} {g : TG} {tt : TT} {te : TE} {vs : List Nat} {σ : L2.St} {H1 : Hp} {D : Addr} {Qd : Hp → Prop} (Pv : Nat → Hp → Prop) (h0 : Pv 0 (upd H1 D (.lst [])))
    (hs : ∀ i H, i < n → Pv i H → g (.int (lo + (i : Nat) * c)) (wipe σ vs) H fun σ2 H2 => wipe σ2 vs = wipe σ vs ∧ tt σ2 H2 fun b H3 =>
      if b = true then te σ2 H3 fun y H4 => ∃ acc, H4 D = some (.lst acc) ∧ acc.length < sizeLine ∧ Pv (i + 1) (upd H4 D (.lst (acc ++ [y]))) else Pv (i + 1) H3) (hd : ∀ H, Pv n H → Qd H) :
    ∃ W : Nat → Nat → Hp → Prop, (∃ m, W 0 m (upd H1 D (.lst []))) ∧ ∀ i m H, W i m H →
      ((Itc lo c n).stop i H ∧ Qd H) ∨ ((Itc lo c n).go i H ∧ ∃ Nx : Hp → Prop, (∀ H', Nx H' → ∃ m', m' < m ∧ W (i + 1) m' H') ∧ ∀ x H', (Itc lo c n).yld i H x H' → g x (wipe σ vs) H' fun σ2 H2 => wipe σ2 vs = wipe σ vs ∧ tt σ2 H2 fun b H3 =>
        if b = true then te σ2 H3 fun y H4 => ∃ acc, H4 D = some (.lst acc) ∧ acc.length < sizeLine ∧ Nx (upd H4 D (.lst (acc ++ [y]))) else Nx H3) := by
  refine ⟨fun i m H => m = n - i ∧ i ≤ n ∧ Pv i H, ⟨n, by simp, Nat.zero_le _, h0⟩, ?_⟩
  rintro i m H ⟨rfl, hi, p⟩
  by_cases hlt : i < n
  · refine .inr ⟨hlt, Pv (i + 1), fun H' p' => ⟨n - (i + 1), by omega, rfl, hlt, p'⟩, fun x H' y => ?_⟩
    obtain ⟨e, y⟩ := y
    subst e y
    exact hs i _ hlt p
  · have e : i = n := by omega
    subst e
    exact .inl ⟨Nat.le_refl _, hd H p⟩
/-! ### tables of numbers -/
/-- the dict at d: at the keys k from above lo to hi the numbers f k -/
def NT (H : Hp) (d : Addr) (lo hi : Nat) (f : Nat → Int) (N : Nat) : Prop := ∃ kvs : List (Key × V), H d = some (.dK kvs) ∧ kvs.length ≤ N ∧ ∀ k : Nat, lo < k → k ≤ hi → valV kvs (.inl (k : Int)) = some (.int (f k))
theorem NT.same {H H' : Hp} {d : Addr} {lo hi N : Nat} {f : Nat → Int} (h : NT H d lo hi f N) (s : Same H H') : NT H' d lo hi f N := by
  obtain ⟨kvs, h1, h2, h3⟩ := h
  exact ⟨kvs, s _ _ h1, h2, h3⟩
theorem NT.new {H : Hp} {d : Addr} {hi : Nat} {f : Nat → Int} (h : H d = some (.dK [])) : NT H d hi hi f 0 := ⟨[], h, Nat.le_refl _, fun k a b => absurd a (by omega)⟩
theorem NT.get {H : Hp} {d : Addr} {lo hi N : Nat} {f : Nat → Int} (h : NT H d lo hi f N) {k : Nat} (h1 : lo < k) (h2 : k ≤ hi) : DGet H d (.int (k : Int)) (some (.int (f k))) := by
  obtain ⟨kvs, h3, _, h4⟩ := h
  rw [← h4 k h1 h2]
  exact DGet.k (k := .inl (k : Int)) h3
theorem NT.put {H : Hp} {d : Addr} {lo hi N : Nat} {f : Nat → Int} {D : Hp → Prop} (h : NT H d lo hi f N) (hN : N < 10000) (k0 : Nat) (v : Int) (lo' hi' : Nat) (f' : Nat → Int) (hf : ∀ k, lo' < k → k ≤ hi' → (k = k0 ∧ f' k = v) ∨ (k ≠ k0 ∧ lo < k ∧ k ≤ hi ∧ f' k = f k))
    (q : ∀ H', Keep d H H' → NT H' d lo' hi' f' (N + 1) → D H') : ∃ H', DPut H d (.int (k0 : Int)) (.int v) H' ∧ D H' := by
  obtain ⟨kvs, h1, h2, h3⟩ := h
  refine ⟨_, DPut.k (k := .inl (k0 : Int)) h1 (Nat.lt_of_le_of_lt h2 (Nat.lt_of_lt_of_le hN (by decide))), q _ Keep.upd ⟨_, upd_same, Nat.le_trans (length_putK _ _ _) (Nat.add_le_add_right h2 1), fun k a b => ?_⟩⟩
  rcases hf k a b with ⟨rfl, e⟩ | ⟨ne, a', b', e⟩
  · rw [valV_put, if_pos rfl, e]
  · have ne' : ¬ (Sum.inl (k : Int) : Key) = .inl (k0 : Int) := fun z => ne (by have := Sum.inl.inj z; omega)
    rw [valV_put, if_neg ne', h3 k a' b', e]
section
variable {td ty tv : TE} {σ : L2.St} {H : Hp} {Q : VK} {D : Ends} {rd : V → V → Hp → VK → Prop}
theorem r_dget (h : td σ H fun x H1 => ty σ H1 fun y H2 => ∃ a v, x = .ref a ∧ DGet H2 a y (some v) ∧ Q v H2) : tDGet td ty σ H Q := h
theorem r_daug (h : td σ H fun x H1 => ty σ H1 fun y H2 => ∃ a v, x = .ref a ∧ DGet H2 a y (some v) ∧ tv σ H2 fun y2 H3 => rd v y2 H3 fun z H4 => ∃ H5, DPut H4 a y z H5 ∧ D.nx σ H5) : sDAug td ty tv rd D σ H := h
end
/-! ### a table of marks: its keys are the numbers ks, each once -/
def MT (H : Hp) (d : Addr) (ks : List Nat) : Prop := ks.Nodup ∧ ∃ kvs : List (Key × V), H d = some (.dK kvs) ∧ kvs.map (·.1) = ks.map fun k : Nat => (Sum.inl (k : Int) : Key)
theorem MT.same {H H' : Hp} {d : Addr} {ks : List Nat} (h : MT H d ks) (s : Same H H') : MT H' d ks := by
  obtain ⟨h0, kvs, h1, h2⟩ := h
  exact ⟨h0, kvs, s _ _ h1, h2⟩
theorem mt_len {ks : List Nat} {kvs : List (Key × V)} (h : kvs.map (·.1) = ks.map fun k : Nat => (Sum.inl (k : Int) : Key)) : kvs.length = ks.length := by
  have := congrArg List.length h
  simpa using this
theorem mt_val {k : Nat} : ∀ {ks : List Nat} {kvs : List (Key × V)}, kvs.map (·.1) = (ks.map fun k : Nat => (Sum.inl (k : Int) : Key)) → ((valV kvs (.inl (k : Int))).isSome = true ↔ k ∈ ks)
  | [], [], _ => by
    rw [valV_nil]
    exact ⟨(fun h => nomatch h), (fun h => nomatch h)⟩
  | [], _ :: _, h => by simp at h
  | _ :: _, [], h => by simp at h
  | x :: ks, p :: kvs, h => by
    rw [List.map_cons, List.map_cons] at h
    obtain ⟨h1, h2⟩ := List.cons.inj h
    have ih := mt_val (k := k) h2
    by_cases e : k = x
    · subst e
      rw [valV_pos h1]
      exact ⟨fun _ => List.mem_cons_self .., fun _ => rfl⟩
    · have ne : ¬ p.1 = .inl (k : Int) := fun z => e (by
        have h3 := h1.symm.trans z
        have := Sum.inl.inj h3
        omega)
      rw [valV_neg ne, ih]
      exact ⟨fun m => List.mem_cons_of_mem _ m, fun m => (List.mem_cons.mp m).resolve_left e⟩
/-- one more mark -/
def mtAdd (ks : List Nat) (k : Nat) : List Nat := if k ∈ ks then ks else ks ++ [k]
theorem mem_mtAdd {ks : List Nat} {k x : Nat} : x ∈ mtAdd ks k ↔ x ∈ ks ∨ x = k := by
  unfold mtAdd
  by_cases h : k ∈ ks
  · rw [if_pos h]
    exact ⟨.inl, fun z => z.elim id fun e => e ▸ h⟩
  · rw [if_neg h, List.mem_append, List.mem_singleton]
theorem mtAdd_len (ks : List Nat) (k : Nat) : (mtAdd ks k).length ≤ ks.length + 1 := by
  unfold mtAdd
  by_cases h : k ∈ ks
  · rw [if_pos h]; omega
  · rw [if_neg h, List.length_append]; simp
theorem mtAdd_nd {ks : List Nat} (h : ks.Nodup) (k : Nat) : (mtAdd ks k).Nodup := by
  unfold mtAdd
  by_cases m : k ∈ ks
  · rw [if_pos m]; exact h
  · rw [if_neg m]
    refine List.nodup_append.mpr ⟨h, by simp, fun x hx y hy e => m ?_⟩
    have hy2 : y = k := by simpa using hy
    rw [← hy2, ← e]
    exact hx
theorem MT.put {H : Hp} {d : Addr} {ks : List Nat} {D : Hp → Prop} {v : V} (h : MT H d ks) (hN : ks.length < 1000000) (k0 : Nat)
    (q : ∀ H', Keep d H H' → MT H' d (mtAdd ks k0) → D H') : ∃ H', DPut H d (.int (k0 : Int)) v H' ∧ D H' := by
  obtain ⟨h0, kvs, h1, h2⟩ := h
  have hl := mt_len h2
  refine ⟨_, DPut.k (k := .inl (k0 : Int)) h1 (Nat.lt_of_lt_of_le (by rw [hl]; exact hN) (by decide)), q _ Keep.upd ⟨mtAdd_nd h0 k0, _, upd_same, ?_⟩⟩
  have hm := mt_val (k := k0) h2
  unfold mtAdd
  by_cases m : k0 ∈ ks
  · rw [if_pos m, ← h2]
    unfold putK
    rw [valV_any, hm.mpr m, if_pos rfl, List.map_map]
    refine List.map_congr_left fun p _ => ?_
    show (if p.1 = .inl (k0 : Int) then (p.1, v) else p).1 = p.1
    split <;> rfl
  · rw [if_neg m, putK_new]
    · rw [List.map_append, h2, List.map_append]
      rfl
    · cases e : valV kvs (.inl (k0 : Int)) with
      | none => rfl
      | some y => exact absurd (hm.mp (by rw [e]; rfl)) m
theorem MT.get {H : Hp} {d : Addr} {ks : List Nat} (h : MT H d ks) (k : Nat) : ∃ o : Option V, DGet H d (.int (k : Int)) o ∧ (o.isSome = true ↔ k ∈ ks) := by
  obtain ⟨_, kvs, h1, h2⟩ := h
  exact ⟨_, DGet.k (k := .inl (k : Int)) h1, mt_val h2⟩
theorem MT.isD {H : Hp} {d : Addr} {ks : List Nat} (h : MT H d ks) : IsD H d := by
  obtain ⟨_, kvs, h1, _⟩ := h
  exact .inl ⟨kvs, Rd.of h1⟩
/-- rising, each once -/
abbrev Up (ks : List Nat) : Prop := ks.Pairwise (· < ·)
theorem cast_list : ∀ {ys : List Int} {ks : List Nat}, ys.Perm (ks.map fun k : Nat => (k : Int)) → ∃ zs : List Nat, ys = zs.map (fun k : Nat => (k : Int)) ∧ zs.Perm ks := fun {ys ks} h => by
  refine ⟨ys.map Int.toNat, ?_, ?_⟩
  · rw [List.map_map]
    conv => lhs; rw [← List.map_id ys]
    refine List.map_congr_left fun y m => ?_
    obtain ⟨k, _, rfl⟩ := List.mem_map.mp (h.mem_iff.mp m)
    rfl
  · have h2 := h.map Int.toNat
    rw [List.map_map] at h2
    have e : Int.toNat ∘ (fun k : Nat => (k : Int)) = id := by funext k; rfl
    rw [e, List.map_id] at h2
    exact h2
theorem r_sortedMT {K : PySem.W.Frag} {d : Addr} {ks : List Nat} {H : Hp} {Q : VK} (h : MT H d ks) (hl : ks.length ≤ 1000000)
    (q : ∀ (p : Addr) (H' : Hp) (zs : List Nat), H p = none → H' p = some (.lst ((zs.map fun k : Nat => (k : Int)).map V.int)) → Same H H' → zs.Perm ks → Up zs → Q (.ref p) H') : rSortedDA K [.ref d] H Q := by
  obtain ⟨h0, kvs, h1, h2⟩ := h
  refine ⟨d, kvs, ks.map (fun k : Nat => (k : Int)), rfl, .of h1, ?_, by rw [List.length_map]; exact hl, fun ys p hp hs np => ?_⟩
  · rw [h2, List.map_map]
    rfl
  · obtain ⟨zs, rfl, hz⟩ := cast_list hp
    refine q p _ zs np upd_same (same_new np) hz ?_
    have nd : zs.Nodup := hz.nodup_iff.mpr h0
    have le : zs.Pairwise (· ≤ ·) := (List.pairwise_map.mp hs).imp fun h => by omega
    exact (le.and nd).imp fun ⟨a, b⟩ => Nat.lt_of_le_of_ne a b
end Pw

namespace Pw
open PySem PySem.Spec PyProof.Rows L2 SX TL
/-! ### the program's counts -/
abbrev nn (ks : List Nat) : List V := (ks.map fun k : Nat => (k : Int)).map V.int
theorem nn_get {ks : List Nat} {i : Nat} (h : i < ks.length) : (nn ks)[i]? = some (.int ((ks[i] : Nat) : Int)) := by
  rw [List.getElem?_map, List.getElem?_map, List.getElem?_eq_getElem h]
  rfl
theorem nn_len (ks : List Nat) : (nn ks).length = ks.length := by rw [List.length_map, List.length_map]
theorem nn_sum : ∀ ks : List Nat, (ks.map fun k : Nat => (k : Int)).sum = ((ks.sum : Nat) : Int)
  | [] => rfl
  | k :: ks => by
    rw [List.map_cons, List.sum_cons, List.sum_cons, nn_sum ks]
    omega
def spCountBy : Sp := fun vs H Q _ => ∃ n e : Nat, vs = [.int (n : Int), .int (e : Int)] ∧ 0 < e ∧ e ≤ 200 ∧ n < 2 ^ 4000 ∧ ∀ (r : Nat) (H' : Hp), Pm.IsRoot n e r → Same H H' → Q (.int (r : Int)) H'
/-- the counts by greatest exponents of n -/
def CG (n : Nat) (ks : List Nat) : Prop := (n = 0 ∧ ks = []) ∨ (1 ≤ n ∧ ∃ M, Pm.Mst n M ∧ ks = Pm.cgl n M)
theorem CG.uniq {n : Nat} {ks ls : List Nat} (h : CG n ks) (h' : CG n ls) : ks = ls := by
  rcases h with ⟨z, rfl⟩ | ⟨n1, M, hM, rfl⟩
  · rcases h' with ⟨_, rfl⟩ | ⟨n1, _⟩
    · rfl
    · omega
  · rcases h' with ⟨z, _⟩ | ⟨_, M', hM', rfl⟩
    · omega
    · rw [hM.uniq hM']
theorem CG.sum {n : Nat} {ks : List Nat} (h : CG n ks) : ks.sum = Pm.cntP n := by
  unfold Pm.cntP
  rcases h with ⟨rfl, rfl⟩ | ⟨n1, M, hM, rfl⟩
  · rfl
  · rw [if_neg (by omega)]
    exact Pm.cgl_sum hM
def spCounts : Sp := fun vs H Q _ => ∃ n : Nat, vs = [.int (n : Int)] ∧ n < 2 ^ 190 ∧ ∀ (ks : List Nat) (p : Addr) (H' : Hp), CG n ks → H p = none → Same H H' → H' p = some (.tup (nn ks)) → Q (.ref p) H'
def spCountTo : Sp := fun vs H Q _ => ∃ n : Nat, vs = [.int (n : Int)] ∧ n < 2 ^ 190 ∧ ∀ H', Same H H' → Q (.int (Pm.cntP n : Nat)) H'
theorem mst_ex {n : Nat} (hn : 1 ≤ n) (hb : n < 2 ^ 190) : ∃ M : Nat, (if (2 : Int) > (Builtin.Int.intBits (n : Int) : Int) - 1 then (2 : Int) else (Builtin.Int.intBits (n : Int) : Int) - 1) = (M : Int) ∧ Pm.Mst n M ∧ M ≤ 190 := by
  have h1 := bits_lt n
  have h2 := bits_le hb
  obtain ⟨h3, h4⟩ := bits_ge (show 0 < n by omega)
  generalize Builtin.Int.intBits (n : Int) = b at *
  by_cases z : (2 : Int) > (b : Int) - 1
  · refine ⟨2, if_pos z, ⟨Nat.le_refl 2, Nat.lt_of_lt_of_le h1 (Nat.pow_le_pow_right (by decide) (by omega)), .inl rfl⟩, by decide⟩
  · refine ⟨b - 1, by rw [if_neg z]; omega, ⟨by omega, by rw [show b - 1 + 1 = b by omega]; exact h1, .inr h3⟩, by omega⟩
end Pw

namespace Pm
/-- the marks that stand behind the bases below B and the powers of B below the exponent E -/
def PInv (ks : List Nat) (M B E : Nat) : Prop := ∀ x, x ∈ ks ↔ x = 1 ∨ (x ≤ M ∧ ∃ c e, 2 ≤ c ∧ 2 ≤ e ∧ c ^ e = x ∧ (c < B ∨ (c = B ∧ e < E)))
theorem PInv.new (M : Nat) : PInv [1] M 2 2 := fun x => by
  rw [List.mem_singleton]
  refine ⟨.inl, fun h => h.elim id fun ⟨_, c, e, h1, h2, _, h3⟩ => ?_⟩
  omega
theorem PInv.push {ks : List Nat} {M B E : Nat} (h : PInv ks M B E) (b2 : 2 ≤ B) (e2 : 2 ≤ E) (hv : B ^ E ≤ M) : PInv (Pw.mtAdd ks (B ^ E)) M B (E + 1) := fun x => by
  rw [Pw.mem_mtAdd, h x]
  constructor
  · rintro ((h1 | ⟨h1, c, e, h2, h3, h4, h5⟩) | rfl)
    · exact .inl h1
    · exact .inr ⟨h1, c, e, h2, h3, h4, by omega⟩
    · exact .inr ⟨hv, B, E, b2, e2, rfl, .inr ⟨rfl, by omega⟩⟩
  · rintro (h1 | ⟨h1, c, e, h2, h3, h4, h5⟩)
    · exact .inl (.inl h1)
    · by_cases z : c = B ∧ e = E
      · exact .inr (by rw [← h4, z.1, z.2])
      · exact .inl (.inr ⟨h1, c, e, h2, h3, h4, by omega⟩)
theorem PInv.next {ks : List Nat} {M B E : Nat} (h : PInv ks M B E) (b2 : 2 ≤ B) (hv : M < B ^ E) : PInv ks M (B + 1) 2 := fun x => by
  rw [h x]
  constructor
  · rintro (h1 | ⟨h1, c, e, h2, h3, h4, h5⟩)
    · exact .inl h1
    · exact .inr ⟨h1, c, e, h2, h3, h4, by omega⟩
  · rintro (h1 | ⟨h1, c, e, h2, h3, h4, h5⟩)
    · exact .inl h1
    · refine .inr ⟨h1, c, e, h2, h3, h4, ?_⟩
      rcases h5 with h5 | h5
      · by_cases w : c = B
        · refine .inr ⟨w, Nat.lt_of_not_le fun z => ?_⟩
          have h6 := Nat.pow_le_pow_right (show 0 < B by omega) z
          rw [← w, h4, w] at h6
          omega
        · exact .inl (by omega)
      · omega
theorem PInv.done {ks : List Nat} {M : Nat} (h : PInv ks M (M + 1) 2) (hM : 1 ≤ M) (x : Nat) : x ∈ ks ↔ 1 ≤ x ∧ x ≤ M ∧ IsPow x := by
  rw [h x]
  constructor
  · rintro (rfl | ⟨h1, c, e, h2, h3, h4, _⟩)
    · exact ⟨Nat.le_refl 1, hM, 1, 2, Nat.le_refl 2, rfl⟩
    · refine ⟨?_, h1, c, e, h3, h4⟩
      rw [← h4]
      exact Nat.pow_pos (by omega)
  · rintro ⟨h1, h2, c, e, h3, h4⟩
    by_cases z : x = 1
    · exact .inl z
    · have c2 : 2 ≤ c := pow_base1 (by omega) (by omega) h4
      have : c ≤ x := by rw [← h4]; exact Nat.le_self_pow (by omega) c
      exact .inr ⟨h2, c, e, c2, h3, h4, .inl (by omega)⟩
theorem PInv.len {ks : List Nat} {M B E : Nat} (h : PInv ks M B E) (hn : ks.Nodup) (hM : 1 ≤ M) : ks.length ≤ M + 1 := by
  have h1 := hn.length_le_of_subset (l₂ := List.range (M + 1)) fun x m => by
    rw [List.mem_range]
    rcases (h x).mp m with z | ⟨z, _⟩ <;> omega
  rwa [List.length_range] at h1
theorem cntP_all (n : Nat) : cntP n = S (fun m => I (1 ≤ m ∧ IsPow m)) (n + 1) := by
  unfold cntP
  by_cases h0 : n = 0
  · subst h0
    rw [if_pos rfl]
    show 0 = 0 + I (1 ≤ 0 ∧ IsPow 0)
    rw [I_f (fun h => absurd h.1 (by decide))]
  · rw [if_neg h0]
    have e : ∀ m, m < n + 1 → I (1 ≤ m ∧ IsPow m) = (if m = 1 then 1 else 0) + I (2 ≤ m ∧ IsPow m) := fun m _ => by
      by_cases z : m = 1
      · subst z
        rw [if_pos rfl, I_t ⟨Nat.le_refl 1, 1, 2, Nat.le_refl 2, rfl⟩, I_f (fun h => absurd h.1 (by decide))]
      · rw [if_neg z, Nat.zero_add]
        exact I_congr ⟨fun h => ⟨by omega, h.2⟩, fun h => ⟨by omega, h.2⟩⟩
    rw [S_congr e, S_add, S_one, if_pos (by omega)]
/-- going through a list of all powers -/
theorem cnt_filter {zs : List Nat} {M n : Nat} (hn : zs.Nodup) (hz : ∀ x, x ∈ zs ↔ 1 ≤ x ∧ x ≤ M ∧ IsPow x) (h : n ≤ M) : (zs.filter fun x => decide (x ≤ n)).length = cntP n := by
  rw [cntP_all, ← len_marks (l := zs.filter fun x => decide (x ≤ n)) (N := n + 1) (hn.filter _) fun x m => by
    have := of_decide_eq_true (List.mem_filter.mp m).2
    omega]
  refine S_congr fun m hm => I_congr ?_
  rw [List.mem_filter, hz]
  exact ⟨fun ⟨⟨a, _, b⟩, _⟩ => ⟨a, b⟩, fun ⟨a, b⟩ => ⟨⟨a, by omega, b⟩, decide_eq_true (by omega)⟩⟩
end Pm
namespace Pw
open PySem PySem.Spec PyProof.Rows L2 SX TL
theorem Up.nodup {zs : List Nat} (h : Up zs) : zs.Nodup := h.imp fun a => Nat.ne_of_lt a
def spIsWhole : Sp := fun vs H Q _ => ∃ i : Int, vs = [.int i, .int i] ∧ Q (.bl true) H
def spNear : Sp := fun vs H Q _ => ∃ M : Nat, vs = [.int (M : Int)] ∧ 1 ≤ M ∧ M ≤ 3000 ∧ ∀ (zs : List Nat) (p : Addr) (H' : Hp), H p = none → Same H H' → H' p = some (.lst (nn zs)) → Up zs → (∀ x, x ∈ zs ↔ 1 ≤ x ∧ x ≤ M ∧ Pm.IsPow x) → Q (.ref p) H'
/-- the list of what is put in, by the test c, of the first i -/
theorem fil_succ {zs : List Nat} {i x : Nat} (c : Nat → Bool) (h : zs[i]? = some x) : (zs.take (i + 1)).filter c = if c x = true then (zs.take i).filter c ++ [x] else (zs.take i).filter c := by
  rw [List.take_add_one, h, List.filter_append]
  by_cases z : c x = true
  · rw [if_pos z]
    simp [z]
  · rw [if_neg z]
    simp [z]
theorem nn_at {zs : List Nat} {i : Nat} {x : V} (h : (nn zs)[i]? = some x) : ∃ k : Nat, zs[i]? = some k ∧ x = .int (k : Int) := by
  rw [List.getElem?_map, List.getElem?_map] at h
  cases e : zs[i]? with
  | none => rw [e] at h; cases h
  | some k =>
    rw [e] at h
    exact ⟨k, rfl, (Option.some.inj h).symm⟩
theorem nn_push (zs : List Nat) (k : Nat) : nn zs ++ [.int (k : Int)] = nn (zs ++ [k]) := by simp only [nn, List.map_append, List.map_cons, List.map_nil]
def spSeedR : Sp := fun vs H Q _ => ∃ (d : Addr) (n : Nat), vs = [.ref d] ∧ SeedAt H d n ∧ n ≤ 2 ^ 40 ∧ ∀ H', Keep d H H' → SeedAt H' d (n + 100) → Q (.bl true) H'
def spRight8 : Sp := fun vs H Q _ => ∃ (d p : Addr) (n m : Nat), vs = [.ref d, .int (m : Int), .ref p] ∧ m ≤ 10 ^ 40 ∧ SeedAt H d n ∧ n ≤ 2 ^ 40 ∧ p ≠ d ∧ H p = some (.lst ((sgRow 139).map V.int)) ∧ ∀ H', Keep d H H' → SeedAt H' d (n + 100) → Q (.bl true) H'
theorem lt133 {m : Nat} (h : m ≤ 10 ^ 40) : m < 2 ^ 133 := Nat.lt_of_le_of_lt h (by decide)
end Pw

namespace Pm
theorem isPow_small {x K : Nat} (h1 : 1 ≤ x) (hK : x < 2 ^ K) (K3 : 3 ≤ K) : IsPow x ↔ ∃ c, c < x + 1 ∧ ∃ k, k < K ∧ (2 ≤ k ∧ c ^ k = x) := by
  constructor
  · rintro ⟨c, k, k2, e⟩
    have cx : c ≤ x := by rw [← e]; exact Nat.le_self_pow (by omega) c
    by_cases z : x = 1
    · exact ⟨1, by omega, 2, by omega, Nat.le_refl 2, by rw [z]⟩
    · have c2 := pow_base1 (show 1 ≤ k by omega) (show 2 ≤ x by omega) e
      refine ⟨c, by omega, k, Nat.lt_of_not_le fun w => ?_, k2, e⟩
      have h3 := two_pow_le (g := k) (n := x) c2 (by rw [e]; exact Nat.le_refl _)
      have h4 := Nat.pow_le_pow_right (show 0 < 2 by decide) w
      omega
  · rintro ⟨c, _, k, _, k2, e⟩
    exact ⟨c, k, k2, e⟩
theorem cntP_list {zs : List Nat} {M n : Nat} (hn : zs.Nodup) (hz : ∀ x, x ∈ zs ↔ 1 ≤ x ∧ x ≤ M ∧ IsPow x) (h : M = n) : cntP n = zs.length := by
  subst h
  rw [← cnt_filter hn hz (Nat.le_refl M), List.filter_eq_self.mpr]
  exact fun x m => decide_eq_true ((hz x).mp m).2.1
theorem near27 (x : Nat) : x ∈ [1, 4, 8, 9, 16, 25, 27] ↔ 1 ≤ x ∧ x ≤ 27 ∧ IsPow x := by
  have h : ∀ x, x < 28 → (x ∈ [1, 4, 8, 9, 16, 25, 27] ↔ 1 ≤ x ∧ ∃ c, c < x + 1 ∧ ∃ k, k < 5 ∧ (2 ≤ k ∧ c ^ k = x)) := by decide +kernel
  constructor
  · intro m
    have hx : x < 28 := by
      simp only [List.mem_cons, List.not_mem_nil, or_false] at m
      omega
    obtain ⟨h1, h2⟩ := (h x hx).mp m
    exact ⟨h1, by omega, (isPow_small h1 (by omega) (by decide)).mpr h2⟩
  · rintro ⟨h1, h2, h3⟩
    exact (h x (by omega)).mpr ⟨h1, (isPow_small h1 (by omega) (by decide)).mp h3⟩
theorem cntP_27 : cntP 27 = 7 := cntP_list (by decide) near27 rfl
theorem cntP_0 : cntP 0 = 0 := if_pos rfl
theorem cntP_1 : cntP 1 = 1 := by
  rw [cntP_list (zs := [1]) (M := 1) (by decide) (fun x => ?_) rfl]
  · rfl
  · rw [List.mem_singleton]
    exact ⟨fun e => by rw [e]; exact ⟨by decide, by decide, 1, 2, by decide, rfl⟩, fun ⟨a, b, _⟩ => by omega⟩
end Pm

namespace Pm
/-- bases that are no powers, by a root -/
theorem S_ge2 : ∀ m : Nat, S (fun c => I (1 ≤ c)) (m + 1) = m
  | 0 => by
    show 0 + I (1 ≤ 0) = 0
    rw [I_f (by decide)]
  | m + 1 => by
    show S (fun c => I (1 ≤ c)) (m + 1) + I (1 ≤ m + 1) = m + 1
    rw [S_ge2 m, I_t (by omega)]
theorem Nn_root {n e r : Nat} (he : 1 ≤ e) (hn : 1 ≤ n) (hr : IsRoot n e r) : cntP r + Nn n e = r := by
  have hle : ∀ b, b ^ e ≤ n ↔ b ≤ r := fun b => by
    constructor
    · intro h
      refine Nat.le_of_not_lt fun z => ?_
      have h3 : (r + 1) ^ e ≤ b ^ e := Nat.pow_le_pow_left z e
      exact absurd (Nat.lt_of_lt_of_le hr.2 (Nat.le_trans h3 h)) (Nat.lt_irrefl _)
    · intro h
      exact Nat.le_trans (Nat.pow_le_pow_left h e) hr.1
  have rn : r ≤ n := Nat.le_trans (Nat.le_self_pow (by omega) r) hr.1
  have e1 : Nn n e = S (fun c => I (Q c ∧ c ≤ r)) (r + 1) := by
    unfold Nn
    rw [S_congr (g := fun c => I (Q c ∧ c ≤ r)) fun c _ => I_congr ⟨fun ⟨a, b⟩ => ⟨a, (hle c).mp b⟩, fun ⟨a, b⟩ => ⟨a, (hle c).mpr b⟩⟩]
    obtain ⟨k, rfl⟩ := Nat.exists_eq_add_of_le rn
    have out : ∀ k, S (fun c => I (Q c ∧ c ≤ r)) (r + 1 + k) = S (fun c => I (Q c ∧ c ≤ r)) (r + 1) := fun k => by
      induction k with
      | zero => rfl
      | succ k ih =>
        show S (fun c => I (Q c ∧ c ≤ r)) (r + 1 + k) + I (Q (r + 1 + k) ∧ r + 1 + k ≤ r) = _
        rw [ih, I_f (fun h => by have := h.2; omega), Nat.add_zero]
    rw [show r + k + 1 = r + 1 + k by omega, out]
  rw [cntP_all, e1, ← S_add]
  have e2 : ∀ c, c < r + 1 → I (1 ≤ c ∧ IsPow c) + I (Q c ∧ c ≤ r) = I (1 ≤ c) := fun c hc => by
    by_cases z : 1 ≤ c
    · by_cases w : IsPow c
      · rw [I_t ⟨z, w⟩, I_t z, I_f]
        rintro ⟨⟨_, h⟩, _⟩
        obtain ⟨b, k, k2, ek⟩ := w
        exact h b k k2 ek
      · rw [I_f (fun h => w h.2), I_t z, I_t]
        refine ⟨⟨?_, fun b k k2 ek => w ⟨b, k, k2, ek⟩⟩, by omega⟩
        refine Nat.lt_of_le_of_ne z fun h => w ?_
        rw [← h]
        exact ⟨1, 2, Nat.le_refl 2, rfl⟩
    · rw [I_f (fun h => z h.1), I_f z, I_f]
      rintro ⟨⟨h, _⟩, _⟩
      omega
  rw [S_congr e2, S_ge2]
end Pm
namespace Pw
open PySem PySem.Spec PyProof.Rows L2 SX TL
/-- the greatest exponent of x -/
noncomputable def gexp (x : Nat) : Nat := Classical.choose (Classical.choose_spec (GW.ex x))
theorem gexp_is (x : Nat) : ∃ b, GW x b (gexp x) := ⟨_, Classical.choose_spec (Classical.choose_spec (GW.ex x))⟩
theorem gexp_eq {x b g : Nat} (h : GW x b g) : gexp x = g := by
  obtain ⟨b', h'⟩ := gexp_is x
  exact (h'.uniq h).2
theorem gexp_1 : gexp 1 = 2 := gexp_eq (.inr (.inl ⟨rfl, rfl, rfl⟩))
/-- each exponent of x is one that divides the greatest -/
theorem gexp_ge {x c e : Nat} (hx : 2 ≤ x) (he : 2 ≤ e) (h : c ^ e = x) : e ≤ gexp x := by
  obtain ⟨b, hb⟩ := gexp_is x
  exact Nat.le_of_dvd hb.pos (hb.base hx he h).1
theorem gexp_at {x : Nat} (hx : 2 ≤ x) : ∃ c, 2 ≤ c ∧ Pm.NotPow c ∧ c ^ gexp x = x := by
  obtain ⟨b, hb⟩ := gexp_is x
  rcases hb with ⟨z, _⟩ | ⟨z, _⟩ | ⟨b2, np, _, e⟩
  · omega
  · omega
  · exact ⟨b, b2, np, e⟩
theorem gexp_pos {x : Nat} : 1 ≤ gexp x := by
  obtain ⟨b, hb⟩ := gexp_is x
  exact hb.pos
theorem gexp_pow {x : Nat} (h1 : 1 ≤ x) : Pm.IsPow x ↔ 2 ≤ gexp x := by
  by_cases z : x = 1
  · subst z
    rw [gexp_1]
    exact ⟨fun _ => Nat.le_refl 2, fun _ => ⟨1, 2, Nat.le_refl 2, rfl⟩⟩
  · constructor
    · rintro ⟨c, k, k2, e⟩
      exact Nat.le_trans k2 (gexp_ge (by omega) k2 e)
    · intro h
      obtain ⟨c, _, _, e⟩ := gexp_at (show 2 ≤ x by omega)
      exact ⟨c, gexp x, h, e⟩
/-- how many numbers to n have just e as their greatest exponent -/
theorem S_gexp {n e : Nat} (he : 1 ≤ e) : Pm.S (fun x => Pm.I (2 ≤ x ∧ gexp x = e)) (n + 1) = Pm.Nn n e := by
  have h1 : ∀ x, x < n + 1 → Pm.I (2 ≤ x ∧ gexp x = e) = Pm.S (fun c => Pm.I (Pm.Q c ∧ c ^ e = x ∧ x ≤ n)) (n + 1) := fun x hx => by
    by_cases z : 2 ≤ x ∧ gexp x = e
    · obtain ⟨c0, c2, np, e0⟩ := gexp_at z.1
      rw [z.2] at e0
      have hc : c0 ≤ x := by rw [← e0]; exact Nat.le_self_pow (by omega) c0
      rw [Pm.I_t z]
      rw [Pm.S_mark (A := fun c => Pm.Q c ∧ c ^ e = x ∧ x ≤ n) (b0 := c0) (P := True) (fun c => ?_) (fun _ => by omega), Pm.I_t trivial]
      constructor
      · rintro ⟨q, ec, _⟩
        exact ⟨(Pm.Q_uniq q ⟨c2, np⟩ he he (ec.trans e0.symm)).1, trivial⟩
      · rintro ⟨rfl, _⟩
        exact ⟨⟨c2, np⟩, e0, by omega⟩
    · rw [Pm.I_f z, Pm.S_congr (g := fun _ => 0) fun c _ => Pm.I_f ?_, Pm.S_zero]
      rintro ⟨⟨c2, np⟩, ec, _⟩
      have x2 : 2 ≤ x := by rw [← ec]; exact Nat.le_trans c2 (Nat.le_self_pow (by omega) c)
      exact z ⟨x2, gexp_eq (.inr (.inr ⟨c2, np, he, ec⟩))⟩
  rw [Pm.S_congr h1, Pm.S_swap]
  unfold Pm.Nn
  refine Pm.S_congr fun c _ => ?_
  refine Pm.S_mark (b0 := c ^ e) (P := Pm.Q c ∧ c ^ e ≤ n) (fun x => ?_) fun h => Nat.lt_succ_of_le h.2
  constructor
  · rintro ⟨q, rfl, h⟩
    exact ⟨rfl, q, h⟩
  · rintro ⟨rfl, q, h⟩
    exact ⟨q, rfl, h⟩
/-- the counts by going through all powers to n -/
theorem count_gexp {zs : List Nat} {M n e : Nat} (hn : zs.Nodup) (hz : ∀ x, x ∈ zs ↔ 1 ≤ x ∧ x ≤ M ∧ Pm.IsPow x) (h : n ≤ M) (n1 : 1 ≤ n) (he : 2 ≤ e) :
    ((zs.filter fun x => decide (x ≤ n)).map gexp).count e = Pm.Nn n e + if e = 2 then 1 else 0 := by
  rw [List.count_eq_countP, List.countP_map, List.countP_eq_length_filter, List.filter_filter]
  rw [← Pm.len_marks (N := n + 1) (hn.filter _) fun x m => by
    have := (List.mem_filter.mp m).2
    simp only [Bool.and_eq_true, decide_eq_true_eq] at this
    omega]
  rw [← S_gexp (n := n) (show 1 ≤ e by omega)]
  have e1 : ∀ x, x < n + 1 → Pm.I (x ∈ zs.filter fun x => (((fun x => x == e) ∘ gexp) x && decide (x ≤ n))) = Pm.I (2 ≤ x ∧ gexp x = e) + if x = 1 then (if e = 2 then 1 else 0) else 0 := fun x hx => by
    have em : (x ∈ zs.filter fun x => (((fun x => x == e) ∘ gexp) x && decide (x ≤ n))) ↔ (1 ≤ x ∧ gexp x = e) := by
      rw [List.mem_filter, hz]
      simp only [Bool.and_eq_true, decide_eq_true_eq, Function.comp, beq_iff_eq]
      constructor
      · rintro ⟨⟨a, _, _⟩, b, _⟩
        exact ⟨a, b⟩
      · rintro ⟨a, b⟩
        exact ⟨⟨a, by omega, (gexp_pow a).mpr (by omega)⟩, b, by omega⟩
    rw [Pm.I_congr em]
    by_cases z : x = 1
    · subst z
      rw [if_pos rfl, Pm.I_f (p := 2 ≤ 1 ∧ gexp 1 = e) (fun h => absurd h.1 (by decide)), Nat.zero_add, Pm.I_ite, gexp_1]
      by_cases w : e = 2
      · rw [if_pos w, if_pos ⟨Nat.le_refl 1, w.symm⟩]
      · rw [if_neg w, if_neg fun h => w h.2.symm]
    · rw [if_neg z, Nat.add_zero]
      exact Pm.I_congr ⟨fun ⟨a, b⟩ => ⟨by omega, b⟩, fun ⟨a, b⟩ => ⟨by omega, b⟩⟩
  rw [Pm.S_congr e1, Pm.S_add, Pm.S_one, if_pos (by omega)]
/-- the greatest of the greatest exponents -/
theorem max_gexp {zs : List Nat} {M n m : Nat} (hz : ∀ x, x ∈ zs ↔ 1 ≤ x ∧ x ≤ M ∧ Pm.IsPow x) (h : n ≤ M) (n1 : 1 ≤ n) (hm : m ∈ (zs.filter fun x => decide (x ≤ n)).map gexp) (hmax : ∀ y ∈ (zs.filter fun x => decide (x ≤ n)).map gexp, y ≤ m) : Pm.Mst n m := by
  have mem : ∀ x, 1 ≤ x → x ≤ n → Pm.IsPow x → gexp x ≤ m := fun x a b c => hmax _ (List.mem_map.mpr ⟨x, List.mem_filter.mpr ⟨(hz x).mpr ⟨a, by omega, c⟩, decide_eq_true b⟩, rfl⟩)
  have m2 : 2 ≤ m := by
    have := mem 1 (Nat.le_refl 1) n1 ⟨1, 2, Nat.le_refl 2, rfl⟩
    rwa [gexp_1] at this
  refine ⟨m2, Nat.lt_of_not_le fun z => ?_, ?_⟩
  · have h2 : 2 ≤ 2 ^ (m + 1) := Nat.le_self_pow (by omega) 2
    have h1 := mem (2 ^ (m + 1)) (by omega) z ⟨2, m + 1, by omega, rfl⟩
    have h3 := gexp_ge (x := 2 ^ (m + 1)) h2 (show 2 ≤ m + 1 by omega) rfl
    omega
  · obtain ⟨x, hx, rfl⟩ := List.mem_map.mp hm
    obtain ⟨hx1, hx2⟩ := List.mem_filter.mp hx
    have hxn := of_decide_eq_true hx2
    obtain ⟨x1, _, _⟩ := (hz x).mp hx1
    by_cases z : x = 1
    · exact .inl (by rw [z]; exact gexp_1)
    · obtain ⟨c, c2, _, e⟩ := gexp_at (show 2 ≤ x by omega)
      refine .inr (Nat.le_trans ?_ hxn)
      conv => rhs; rw [← e]
      exact Nat.pow_le_pow_left c2 _
/-! ### a table of the exponents found -/
/-- the greatest exponent so far: bases below B, and B below E -/
structure GInv (ks : List Nat) (f : Nat → Nat) (M B E : Nat) : Prop where
  keys : Pm.PInv ks M B E
  lo : ∀ x ∈ ks, 2 ≤ x → ∃ c, 2 ≤ c ∧ 2 ≤ f x ∧ c ^ f x = x
  hi : ∀ x ∈ ks, ∀ c e, 2 ≤ c → 2 ≤ e → c ^ e = x → (c < B ∨ (c = B ∧ e < E)) → e ≤ f x
  one : f 1 = 2
theorem GInv.new (M : Nat) : GInv [1] (fun _ => 2) M 2 2 := ⟨Pm.PInv.new M, fun x hx h => by
    have : x = 1 := by simpa using hx
    omega, fun x hx c e h1 h2 h3 h4 => by omega, rfl⟩
theorem GInv.push {ks : List Nat} {f : Nat → Nat} {M B E : Nat} (h : GInv ks f M B E) (b2 : 2 ≤ B) (e2 : 2 ≤ E) (hv : B ^ E ≤ M) :
    GInv (mtAdd ks (B ^ E)) (fun x => if x = B ^ E then (if B ^ E ∈ ks then max (f x) E else E) else f x) M B (E + 1) := by
  have hp : 2 ≤ B ^ E := Nat.le_trans b2 (Nat.le_self_pow (by omega) B)
  refine ⟨h.keys.push b2 e2 hv, fun x hx x2 => ?_, fun x hx c e c2 e2' ec hce => ?_, ?_⟩
  · by_cases z : x = B ^ E
    · rw [if_pos z]
      by_cases w : B ^ E ∈ ks
      · rw [if_pos w]
        rcases Nat.le_total (f x) E with u | u
        · rw [Nat.max_eq_right u]
          exact ⟨B, b2, e2, z.symm⟩
        · rw [Nat.max_eq_left u]
          exact h.lo x (by rw [z]; exact w) x2
      · rw [if_neg w]
        exact ⟨B, b2, e2, z.symm⟩
    · rw [if_neg z]
      exact h.lo x ((mem_mtAdd.mp hx).resolve_right z) x2
  · by_cases z : x = B ^ E
    · show e ≤ if x = B ^ E then (if B ^ E ∈ ks then max (f x) E else E) else f x
      rw [if_pos z]
      by_cases u : c = B ∧ e = E
      · by_cases w : B ^ E ∈ ks
        · rw [if_pos w, u.2]
          exact Nat.le_max_right _ _
        · rw [if_neg w, u.2]
          exact Nat.le_refl _
      · have hce' : c < B ∨ (c = B ∧ e < E) := by omega
        have w : B ^ E ∈ ks := (h.keys _).mpr (.inr ⟨hv, c, e, c2, e2', ec.trans z, hce'⟩)
        rw [if_pos w]
        exact Nat.le_trans (h.hi x (by rw [z]; exact w) c e c2 e2' ec hce') (Nat.le_max_left _ _)
    · show e ≤ if x = B ^ E then (if B ^ E ∈ ks then max (f x) E else E) else f x
      rw [if_neg z]
      refine h.hi x ((mem_mtAdd.mp hx).resolve_right z) c e c2 e2' ec ?_
      by_cases u : c = B ∧ e = E
      · exact absurd (by rw [← ec, u.1, u.2]) z
      · omega
  · show (if 1 = B ^ E then (if B ^ E ∈ ks then max (f 1) E else E) else f 1) = 2
    rw [if_neg (by omega)]
    exact h.one
theorem GInv.next {ks : List Nat} {f : Nat → Nat} {M B E : Nat} (h : GInv ks f M B E) (b2 : 2 ≤ B) (hv : M < B ^ E) : GInv ks f M (B + 1) 2 := by
  refine ⟨h.keys.next b2 hv, h.lo, fun x hx c e c2 e2 ec hce => ?_, h.one⟩
  refine h.hi x hx c e c2 e2 ec ?_
  by_cases w : c = B
  · refine .inr ⟨w, Nat.lt_of_not_le fun z => ?_⟩
    have h6 := Nat.pow_le_pow_right (show 0 < B by omega) z
    have hxM : x ≤ M ∨ x = 1 := by
      rcases (h.keys x).mp hx with u | ⟨u, _⟩
      · exact .inr u
      · exact .inl u
    have : x = B ^ e := by rw [← ec, w]
    have h7 : 2 ≤ B ^ e := Nat.le_trans b2 (Nat.le_self_pow (by omega) B)
    omega
  · omega
theorem GInv.done {ks : List Nat} {f : Nat → Nat} {M : Nat} (h : GInv ks f M (M + 1) 2) (hM : 1 ≤ M) : ∀ x ∈ ks, f x = gexp x := fun x hx => by
  obtain ⟨x1, xM, xp⟩ := (h.keys.done hM x).mp hx
  by_cases z : x = 1
  · rw [z, h.one, gexp_1]
  · have x2 : 2 ≤ x := by omega
    obtain ⟨c, c2, f2, e⟩ := h.lo x hx x2
    refine Nat.le_antisymm (gexp_ge x2 f2 e) ?_
    obtain ⟨b, b2, _, eb⟩ := gexp_at x2
    have g2 := (gexp_pow x1).mp xp
    have : b ≤ x := by
      conv => rhs; rw [← eb]
      exact Nat.le_self_pow (by omega) b
    exact h.hi x hx b _ b2 g2 eb (.inl (by omega))
/-- a table: the keys ks, at each the number f -/
def FT (H : Hp) (d : Addr) (ks : List Nat) (f : Nat → Nat) : Prop := ks.Nodup ∧ ∃ kvs : List (Key × V), H d = some (.dK kvs) ∧ kvs = ks.map fun k : Nat => ((Sum.inl (k : Int) : Key), V.int ((f k : Nat) : Int))
theorem FT.same {H H' : Hp} {d : Addr} {ks : List Nat} {f : Nat → Nat} (h : FT H d ks f) (s : Same H H') : FT H' d ks f := by
  obtain ⟨h0, kvs, h1, h2⟩ := h
  exact ⟨h0, kvs, s _ _ h1, h2⟩
theorem ft_val (f : Nat → Nat) (k : Nat) : ∀ ks : List Nat, valV (ks.map fun k : Nat => ((Sum.inl (k : Int) : Key), V.int ((f k : Nat) : Int))) (.inl (k : Int)) = if k ∈ ks then some (.int ((f k : Nat) : Int)) else none
  | [] => rfl
  | x :: ks => by
    rw [List.map_cons]
    by_cases e : k = x
    · subst e
      rw [valV_pos rfl, if_pos (List.mem_cons_self ..)]
    · have ne : ¬ ((Sum.inl (x : Int) : Key) = .inl (k : Int)) := fun z => e (by have := Sum.inl.inj z; omega)
      rw [valV_neg ne, ft_val f k ks]
      by_cases m : k ∈ ks
      · rw [if_pos m, if_pos (List.mem_cons_of_mem _ m)]
      · rw [if_neg m, if_neg fun z => m ((List.mem_cons.mp z).resolve_left e)]
theorem FT.isD {H : Hp} {d : Addr} {ks : List Nat} {f : Nat → Nat} (h : FT H d ks f) : IsD H d := by
  obtain ⟨_, kvs, h1, _⟩ := h
  exact .inl ⟨kvs, Rd.of h1⟩
theorem FT.get {H : Hp} {d : Addr} {ks : List Nat} {f : Nat → Nat} (h : FT H d ks f) (k : Nat) : DGet H d (.int (k : Int)) (if k ∈ ks then some (.int ((f k : Nat) : Int)) else none) := by
  obtain ⟨_, kvs, h1, rfl⟩ := h
  rw [← ft_val]
  exact DGet.k (k := .inl (k : Int)) h1
theorem FT.put {H : Hp} {d : Addr} {ks : List Nat} {f : Nat → Nat} {D : Hp → Prop} (h : FT H d ks f) (hN : ks.length < 1000000) (k0 v : Nat)
    (q : ∀ H', Keep d H H' → FT H' d (mtAdd ks k0) (fun x => if x = k0 then v else f x) → D H') : ∃ H', DPut H d (.int (k0 : Int)) (.int (v : Int)) H' ∧ D H' := by
  obtain ⟨h0, kvs, h1, h2⟩ := h
  refine ⟨_, DPut.k (k := .inl (k0 : Int)) h1 (Nat.lt_of_lt_of_le (by rw [h2, List.length_map]; exact hN) (by decide)), q _ Keep.upd ⟨mtAdd_nd h0 k0, _, upd_same, ?_⟩⟩
  subst h2
  unfold mtAdd
  by_cases m : k0 ∈ ks
  · rw [if_pos m]
    unfold putK
    rw [valV_any, ft_val, if_pos m, Option.isSome_some, if_pos rfl, List.map_map]
    refine List.map_congr_left fun x _ => ?_
    show (if (Sum.inl (x : Int) : Key) = .inl (k0 : Int) then ((Sum.inl (x : Int) : Key), V.int (v : Int)) else ((Sum.inl (x : Int) : Key), V.int ((f x : Nat) : Int))) = _
    by_cases e : x = k0
    · subst e
      rw [if_pos rfl]
      show _ = ((Sum.inl (x : Int) : Key), V.int (((if x = x then v else f x) : Nat) : Int))
      rw [if_pos rfl]
    · rw [if_neg (fun z => e (by have := Sum.inl.inj z; omega))]
      show _ = ((Sum.inl (x : Int) : Key), V.int (((if x = k0 then v else f x) : Nat) : Int))
      rw [if_neg e]
  · rw [if_neg m, putK_new _ (by rw [ft_val, if_neg m]), List.map_append]
    congr 1
    · refine List.map_congr_left fun x hx => ?_
      show _ = ((Sum.inl (x : Int) : Key), V.int (((if x = k0 then v else f x) : Nat) : Int))
      rw [if_neg (fun e : x = k0 => m (e ▸ hx))]
    · show _ = [((Sum.inl (k0 : Int) : Key), V.int (((if k0 = k0 then v else f k0) : Nat) : Int))]
      rw [if_pos rfl]
section
variable {σ : L2.St} {tt : TT} {te : TE} {g : TG} {vs : List Nat}
theorem lc_keys {d D : Addr} {od : Obj} {kvs : List (Key × V)} {H1 : Hp} {Qd : Hp → Prop} (Pv : Nat → Hp → Prop) (h0 : Pv 0 (upd H1 D (.lst []))) (hl : ∀ i H, Pv i H → H d = some (.frz od (.dK kvs)))
    (hs : ∀ i k v H, kvs[i]? = some (k, v) → Pv i H → g (kV k) (wipe σ vs) H fun σ2 H2 => wipe σ2 vs = wipe σ vs ∧ tt σ2 H2 fun b H3 =>
      if b = true then te σ2 H3 fun y H4 => ∃ acc, H4 D = some (.lst acc) ∧ acc.length < sizeLine ∧ Pv (i + 1) (upd H4 D (.lst (acc ++ [y]))) else Pv (i + 1) H3) (hd : ∀ H, Pv kvs.length H → Qd H) :
    ∃ W : Nat → Nat → Hp → Prop, (∃ m, W 0 m (upd H1 D (.lst []))) ∧ ∀ i m H, W i m H →
      ((Itk d od kvs).stop i H ∧ Qd H) ∨ ((Itk d od kvs).go i H ∧ ∃ Nx : Hp → Prop, (∀ H', Nx H' → ∃ m', m' < m ∧ W (i + 1) m' H') ∧ ∀ x H', (Itk d od kvs).yld i H x H' → g x (wipe σ vs) H' fun σ2 H2 => wipe σ2 vs = wipe σ vs ∧ tt σ2 H2 fun b H3 =>
        if b = true then te σ2 H3 fun y H4 => ∃ acc, H4 D = some (.lst acc) ∧ acc.length < sizeLine ∧ Nx (upd H4 D (.lst (acc ++ [y]))) else Nx H3) := by
  refine ⟨fun i m H => m = kvs.length - i ∧ i ≤ kvs.length ∧ Pv i H, ⟨kvs.length, by simp, Nat.zero_le _, h0⟩, ?_⟩
  rintro i m H ⟨rfl, hi, p⟩
  by_cases hlt : i < kvs.length
  · refine .inr ⟨⟨hl i H p, hlt⟩, Pv (i + 1), fun H' p' => ⟨kvs.length - (i + 1), by omega, rfl, hlt, p'⟩, fun x H' y => ?_⟩
    obtain ⟨e, k, v, hk, hx⟩ := y
    subst e hx
    exact hs i k v _ hk p
  · have e : i = kvs.length := by omega
    subst e
    exact .inl ⟨⟨hl _ H p, Nat.le_refl _⟩, hd H p⟩
end
end Pw

namespace Pw
open PySem PySem.Spec PyProof.Rows L2 SX TL
def spIsTuple : Sp := fun vs H Q _ => ∃ (p q : Addr) (ns : List Int), vs = [.ref p, .ref q] ∧ H p = some (.tup (ns.map V.int)) ∧ H q = some (.lst (ns.map V.int)) ∧ ∀ H', Same H H' → Q (.bl true) H'
def spNear9 : Sp := fun vs H Q _ => ∃ M : Nat, vs = [.int (M : Int)] ∧ 1 ≤ M ∧ M ≤ 3000 ∧ ∀ (ks : List Nat) (d : Addr) (H' : Hp), H d = none → Same H H' → FT H' d ks gexp → (∀ x, x ∈ ks ↔ 1 ≤ x ∧ x ≤ M ∧ Pm.IsPow x) → Q (.ref d) H'
def spDue9 : Sp := fun vs H Q _ => ∃ (n : Nat) (p : Addr), vs = [.int (n : Int), .ref p] ∧ 1 ≤ n ∧ n ≤ 10 ^ 40 ∧ H p = some (.lst ((sgRow 139).map V.int)) ∧ ∀ (M : Nat) (q : Addr) (H' : Hp), Pm.Mst n M → H q = none → Same H H' → H' q = some (.lst (nn (Pm.cgl n M))) → Q (.ref q) H'
theorem FT.congr {H : Hp} {d : Addr} {ks : List Nat} {f g : Nat → Nat} (h : FT H d ks f) (e : ∀ x ∈ ks, f x = g x) : FT H d ks g := by
  obtain ⟨h0, kvs, h1, h2⟩ := h
  refine ⟨h0, kvs, h1, h2.trans (List.map_congr_left fun x hx => ?_)⟩
  rw [e x hx]
theorem ft_at {ks : List Nat} {f : Nat → Nat} {i : Nat} {k : Key} {v : V} (h : (ks.map fun k : Nat => ((Sum.inl (k : Int) : Key), V.int ((f k : Nat) : Int)))[i]? = some (k, v)) : ∃ x : Nat, ks[i]? = some x ∧ k = .inl (x : Int) ∧ v = .int ((f x : Nat) : Int) := by
  rw [List.getElem?_map] at h
  cases e : ks[i]? with
  | none => rw [e] at h; cases h
  | some x =>
    rw [e] at h
    cases h
    exact ⟨x, rfl, rfl, rfl⟩
theorem lockSame {H H8 : Hp} {d : Addr} {u : HO} {od : Obj} (h : H d = some u) (s : Same (upd H d (.frz od u)) H8) : Same H (upd H8 d u) := fun b o e => by
  by_cases z : b = d
  · subst z
    rw [upd_same, ← h, e]
  · rw [upd_ne z]
    exact s b o (by rw [upd_ne z]; exact e)
section
variable {t : TS} {σ : L2.St} {H : Hp} {D : Ends} {te : TE} {Q : VK}
theorem r_lock {d : Addr} {u : HO} (h : H d = some u) (m : Mut (some u)) (q : ∀ od, t ⟨fun σ' H' => H' d = some (.frz od u) ∧ D.nx σ' (upd H' d u), fun v H' => H' d = some (.frz od u) ∧ D.rt v (upd H' d u), fun σ' H' => H' d = some (.frz od u) ∧ D.bk σ' (upd H' d u), fun σ' H' => H' d = some (.frz od u) ∧ D.ct σ' (upd H' d u)⟩ σ (upd H d (.frz od u))) : tLock t D σ H := ⟨d, u, h, m, q⟩
theorem r_lockE {d : Addr} {u : HO} (h : H d = some u) (m : Mut (some u)) (q : ∀ od, te σ (upd H d (.frz od u)) fun v H' => H' d = some (.frz od u) ∧ Q v (upd H' d u)) : tLockE te σ H Q := ⟨d, u, h, m, q⟩
theorem r_iKeys {td : TE} {R : It → Hp → Prop} (h : td σ H fun x H1 => ∃ d o, x = .ref d ∧ ((∃ kvs, H1 d = some (.frz o (.dK kvs)) ∧ R (Itk d o kvs) H1) ∨ ∃ kvs, H1 d = some (.frz o (.dT kvs)) ∧ R (Itkt d o kvs) H1)) : iKeys td σ H R := h
theorem r_max {K : PySem.W.Frag} {a : Addr} {ns : List Int} (h : SqL K H a (ns.map V.int)) (hl : 0 < ns.length) (q : ∀ m, m ∈ ns → (∀ y, y ∈ ns → y ≤ m) → Q (.int m) H) : rMax K [.ref a] H Q := ⟨a, ns, rfl, h, hl, q⟩
theorem r_min {K : PySem.W.Frag} {a : Addr} {ns : List Int} (h : SqL K H a (ns.map V.int)) (hl : 0 < ns.length) (q : ∀ m, m ∈ ns → (∀ y, y ∈ ns → m ≤ y) → Q (.int m) H) : rMin K [.ref a] H Q := ⟨a, ns, rfl, h, hl, q⟩
theorem r_cntI {K : PySem.W.Frag} {a : Addr} {ns : List Int} {k : Int} (h : SqL K H a (ns.map V.int)) (q : Q (.int (ns.count k : Nat)) H) : rCntI K (.ref a) [.int k] H Q := ⟨a, ns, k, rfl, rfl, h, q⟩
end
theorem cast_count (k : Nat) : ∀ L : List Nat, (L.map fun x : Nat => (x : Int)).count (k : Int) = L.count k
  | [] => rfl
  | x :: L => by
    rw [List.map_cons, List.count_cons, List.count_cons, cast_count k L]
    by_cases e : x = k
    · subst e
      simp
    · have : ¬ (x : Int) = (k : Int) := fun z => e (by omega)
      simp [e, this]
theorem cgl_ne {n M : Nat} (h : 2 ≤ M) : ∃ r, Pm.cgl n M = (Pm.Nn n 2 + 1) :: r := by
  unfold Pm.cgl
  obtain ⟨k, rfl⟩ : ∃ k, M = k + 2 := ⟨M - 2, by omega⟩
  rw [show k + 2 - 1 = k + 1 by omega, List.range_succ_eq_map, List.map_cons]
  exact ⟨_, rfl⟩
theorem pe_cntB {X : Cx} {s : Shared} {H : Hp} {sc : Scope} {ev : Env} {fp : List Addr} {o e : Expr} {es : List Expr} {to : TE} {t : TA} {apos cpos : Pos} (ho : PE (X.blk s H sc ev fp) o to) (ha : PA (X.blk s H sc ev fp) (e :: es) t)
    (hbase : attributeBase o "count" (X.blk s H sc ev fp).env (eval o (X.blk s H sc ev fp).env) = eval o (X.blk s H sc ev fp).env := by rfl)
    (hfew : ((backTo cpos (starEach (e :: es) (X.blk s H sc ev fp).env)).all (fun x => !x.1) && (backToKw cpos (keywordEach [] (X.blk s H sc ev fp).env)).all (fun x => x.1.isSome)
      && decide ((e :: es).length + ([] : List Keyword).length + (if ([] : List Keyword).isEmpty then 0 else 1) < 30)) = true := by rfl)
    (hline : (apos.endLine == cpos.line) = true := by rfl) (hs : starEach (e :: es) (X.blk s H sc ev fp).env = (false, eval e (X.blk s H sc ev fp).env) :: starEach es (X.blk s H sc ev fp).env := by rfl) (hplain : (backTo cpos (starEach es (X.blk s H sc ev fp).env)).any (·.1) = false := by rfl) :
    PE (X.blk s H sc ev fp) (.Call (.Attribute o "count" apos) (e :: es) [] cpos) (tBM X.K "list" (rCntI X.K) to t) :=
  pe_bm PySem.F.plainAttrs_list PySem.F.slot_list_count PySem.F.type_list_count mt_lcount ho ha hbase hfew hline hs hplain
theorem cnt27 {n : Nat} (h : n ≤ 27) : Pm.cntP n = ([1, 4, 8, 9, 16, 25, 27].filter fun x => decide (x ≤ n)).length := (Pm.cnt_filter (by decide) Pm.near27 h).symm
theorem cg3 : CG 3 [1] := by
  refine .inr ⟨by decide, 2, ⟨by decide, by decide, .inl rfl⟩, ?_⟩
  show [1] = [Pm.Nn 3 2 + 1]
  rw [Pm.Nn_zero (n := 3) (K := 2) (by decide) (by decide)]
theorem cg16 : CG 16 [3, 1, 1] := by
  refine .inr ⟨by decide, 4, ⟨by decide, by decide, .inr (by decide)⟩, ?_⟩
  show [3, 1, 1] = [Pm.Nn 16 2 + 1, Pm.Nn 16 3, Pm.Nn 16 4]
  have h2 := Pm.Nn_root (n := 16) (e := 2) (r := 4) (by decide) (by decide) ⟨by decide, by decide⟩
  have h3 := Pm.Nn_root (n := 16) (e := 3) (r := 2) (by decide) (by decide) ⟨by decide, by decide⟩
  have h4 := Pm.Nn_root (n := 16) (e := 4) (r := 2) (by decide) (by decide) ⟨by decide, by decide⟩
  have c4 : Pm.cntP 4 = 2 := (cnt27 (by decide)).trans (by decide)
  have c2 : Pm.cntP 2 = 1 := (cnt27 (by decide)).trans (by decide)
  rw [show Pm.Nn 16 2 = 2 by omega, show Pm.Nn 16 3 = 1 by omega, show Pm.Nn 16 4 = 1 by omega]
end Pw

/-! ### enumerate(tuple) -/
namespace Pw
open PySem PySem.Spec PyProof.Rows L2
open AutoSeq1 (wpAny_loadPart')
theorem meets_enumerate_newT (l : Addr) (items : Array Value) (n : Nat) (dct : Option Addr) (sl : Array (Option Value)) :
    Meets (Builtin.«enumerate.__new__» ⟨[.type "enumerate", .ref l], []⟩) (fun _ R s => s.heap.get? l = some { cls := .type "tuple", dict := dct, data := .seq items n, slots := sl } ∧
      R (.ok (.ret (.ref (s.heap.push { cls := .type "tuple_iterator", data := .fields #[.ref l, .int 0 0] }).objs.size)))
        { s with heap := (s.heap.push { cls := .type "tuple_iterator", data := .fields #[.ref l, .int 0 0] }).push { cls := .type "enumerate", data := .fields #[.none, .bool false, .ref s.heap.objs.size, rawInt 0, .none, .none] } }) :=
  .of_wp fun prog w A R s h => by
    obtain ⟨hp, g, d, tk, os⟩ := s; obtain ⟨hl, h⟩ := h
    have hsub := sub_enumerate
    have hL : Heap.IsTuple (Shared.heap ⟨hp, g, d, tk, os⟩) l items := ⟨_, hl, rfl, n, rfl⟩
    wp_walk using wpAny_loadPart' hl
    refine wpAny_stack_any fun st => wpAny_pure ?_
    split
    · rename_i c _ _ _ _ _
      cases (c == Value.type "enumerate")
      · wp_walk using wpAny_loadPart' hl, wpAny_pyIter_tuple hL
        exact ⟨_, rfl, h⟩
      · wp_walk using wpAny_loadPart' hl, wpAny_pyIter_tuple hL
        exact ⟨_, rfl, h⟩
    · wp_walk using wpAny_loadPart' hl, wpAny_pyIter_tuple hL
      exact ⟨_, rfl, h⟩
section
variable {prog : Program} {w : World} {A : Around} {E : Value → Shared → Prop} {s : Shared}
theorem call_enumerate_tuple {l : Addr} {items : Array Value} {Q : Value → Shared → Prop} (hL : s.heap.IsTuple l items)
    (h : ∀ h', IsEnum h' (s.heap.objs.size + 1) s.heap.objs.size 0 .none → h'.IsTupleIter s.heap.objs.size l 0 → h'.objs.size = s.heap.objs.size + 2 →
      (∀ b o, s.heap.get? b = some o → h'.get? b = some o) → Q (.ref (s.heap.objs.size + 1)) { s with heap := h' }) :
    wpAny (model prog w) A (call (.type "enumerate") [.ref l]) Q E s := by
  obtain ⟨⟨c, dct, dt, sl⟩, hl, hc, n, hd⟩ := hL
  replace hc : c = .type "tuple" := hc
  replace hd : dt = .seq items n := hd
  subst hc hd
  refine callType_new F.called_enumerate (by decide) (F.typeCall_enumerate_1 _) (F.newCall_enumerate_1 _) (fun obj => F.args_object_init_2 obj _) F.entry_enumerate_new
    (meets_enumerate_newT l items n dct sl) ⟨hl, ?_⟩
  have hz : (s.heap.push { cls := .type "tuple_iterator", data := .fields #[.ref l, .int 0 0] }).objs.size = s.heap.objs.size + 1 := Heap.size_push ..
  show _ ∧ _
  rw [hz]
  have he : IsEnum ((s.heap.push { cls := .type "tuple_iterator", data := .fields #[.ref l, .int 0 0] }).push
      { cls := .type "enumerate", data := .fields #[.none, .bool false, .ref s.heap.objs.size, rawInt 0, .none, .none] }) (s.heap.objs.size + 1) s.heap.objs.size 0 .none := by
    have := Heap.get?_push_size (s.heap.push { cls := .type "tuple_iterator", data := .fields #[.ref l, .int 0 0] })
      (o := { cls := .type "enumerate", data := .fields #[.none, .bool false, .ref s.heap.objs.size, rawInt 0, .none, .none] }) rfl
    rw [hz] at this; exact this
  refine ⟨⟨_, he, rfl⟩, h _ he ⟨_, Heap.get?_push_of_some _ (Heap.get?_push_size _ rfl), rfl, rfl⟩ (by rw [Heap.size_push, hz]) fun b o x => Heap.get?_push_of_some _ (Heap.get?_push_of_some _ x)⟩
end
section
variable {prog : Program} {w : World} {A : Around} {E : Value → Shared → Prop} {s : Shared}
theorem wpAny_pyNext_enum_endT {e it l : Addr} {i : Int} {j : Nat} {items : Array Value} {old : Value} {Q : Option Value → Shared → Prop} (hh : A.handled = none)
    (he : IsEnum s.heap e it i old) (hit : s.heap.IsTupleIter it l j) (hl : s.heap.IsTuple l items) (hx : items[j]? = none)
    (hQ : ∀ h', Heap.ExtBut it s.heap h' → Q none { s with heap := h' }) : wpAny (model prog w) A (pyNext (.ref e)) Q E s := by
  have hT : s.TypeIs (.ref e) "enumerate" := ⟨_, he, rfl⟩
  unfold pyNext
  refine wpAny_bind (wpAny_attempt (wpAny_callSpecial?_slot (name := Str.ofString "__next__") hT F.slot_enumerate_next
    (wpAny_call_entry F.slot_enumerate_next hT F.entry_enumerate_next ?_ (F.args_enumerate_next_1 _))))
  show wpAny _ _ (field (.ref e) 2 >>= _) _ _ _
  refine wpAny_bind (wpAny_field he rfl (x := .ref it) rfl ?_)
  refine wpAny_bind (wpAny_nextOf_tuple_end hh hit hl hx fun h' x he' hx' => ?_)
  obtain ⟨o, ho, hc⟩ := hx'
  refine wpAny_bind (wpAny_isInstance (T := "StopIteration") (b := true) ⟨o, ho, hc⟩ isSubtype_stop ?_)
  exact wpAny_pure (hQ _ he')
end
def IteT (K : PySem.W.Frag) (a : Addr) : It :=
  ⟨fun i H => ∃ (xs : List V) (x : V), SqT K H a xs ∧ xs[i]? = some x, fun i H v H' => ∃ T x, v = .ref T ∧ H T = none ∧ H' = upd H T (.tup [.int (i : Nat), x]) ∧ ∀ xs, SqT K H a xs → xs[i]? = some x, fun i H => ∃ xs : List V, SqT K H a xs ∧ xs.length ≤ i⟩
theorem turn_enumT {P : Program} {w : World} {K : PySem.W.Frag} {elts : List Expr} {kk : Nat} {tpos : Pos} (a e it : Addr) :
    Turn P w K (.Tuple elts kk tpos) (IteT K a) [e, it] e (fun i h => (∃ old, IsEnum h e it ((i : Nat) : Int) old) ∧ h.IsTupleIter it a i ∧ e ≠ it ∧ a ≠ e ∧ a ≠ it) where
  mem := by simp
  obj := fun i h st b hb => by
    obtain ⟨⟨old, he⟩, ⟨o, ho, hc, hd⟩, _⟩ := st
    have e' : b = e ∨ b = it := by simpa using hb
    rcases e' with z | z
    · rw [z]; exact ⟨_, he, fun v q => nomatch q⟩
    · rw [z]; exact ⟨o, ho, fun v q => by rw [hd] at q; cases q⟩
  keep := fun i h h' st k => let ⟨⟨old, he⟩, hi, hne⟩ := st; ⟨⟨old, k e (by simp) _ he⟩, hi.at fun o q => k it (by simp) o q, hne⟩
  item := by
    intro X hP hw hK hc i pins s σ H E I hf st hg
    subst hP hw hK
    obtain ⟨⟨old, he⟩, hit, hne, hae, hai⟩ := st
    obtain ⟨xs, x, hq, hx⟩ := hg
    obtain ⟨its, rv, p, hz⟩ := I.tuple hq
    obtain ⟨u, hu, ru⟩ := rv.get hx
    have hel : e < s.heap.objs.size := Heap.lt_size he
    have hil : it < s.heap.objs.size := by obtain ⟨_, q, _⟩ := hit; exact Heap.lt_size q
    have hul : i < its.toArray.size := by
      have := (List.getElem?_eq_some_iff.mp hu).1
      simpa using this
    refine wpAny_pyNext_enum_itemD (Draws.tuple (A := X.A.in1) (I.ok.hd hc) it a hai its.toArray) he ⟨hit, p⟩ hul hne (by simp [hne, Ne.symm hae]) fun x' h' tk hPx ho hit' hT hsz hk => ?_
    have hxu : x' = u := by
      have h1 : its.toArray[i]? = some u := by simpa using hu
      rw [h1] at hPx
      exact (Option.some.inj hPx).symm
    subst hxu
    refine ⟨_, rfl, wpAny_letOwnedTupleGo_enum (s := { s with heap := h', toks := tk + 1 }) ho fun h'' he' sb => ?_⟩
    have hT2 : h''.get? s.heap.objs.size = some { cls := .type "tuple", data := .seq #[.int i tk, x'] } := (sb.2 _ (Nat.ne_of_gt hel)).trans hT
    have new : ObjOk X.prog X.w (upd H s.heap.objs.size (.tup [.int (i : Nat), x])) h'' s.heap.objs.size (.tup [.int (i : Nat), x]) :=
      ⟨by show 2 ≤ sizeLine; decide, [.int i tk, x'], .cons ⟨_, rfl⟩ (.cons ru .nil), ⟨_, hT2, rfl, _, rfl⟩⟩
    have I1 : Inv X pins σ (upd H s.heap.objs.size (.tup [.int (i : Nat), x])) { s with heap := h'', toks := tk + 1 } :=
      I.turnedNew (ch := [e, it]) (fun b ob hb q => (sb.2 b (fun z => hb (by simp [z]))).trans (hk b ob (fun z => hb (by simp [z])) (fun z => hb (by simp [z])) q)) hf (Nat.le_refl _) new
    refine ⟨.ref s.heap.objs.size, _, I1, rfl, ⟨_, x, rfl, I.hok.fresh (Nat.le_refl _), rfl, fun ys hy => by rw [I.tuple_inj hy hq]; exact hx⟩, ⟨⟨x', ?_⟩, hit'.1.at fun o q => (sb.2 it (Ne.symm hne)).trans q, hne, hae, hai⟩, fun b hb => ?_⟩
    · have e1 : ((i + 1 : Nat) : Int) = (i : Int) + 1 := by omega
      rw [e1]; exact he'
    · have hb' : b < s.heap.objs.size := by
        have e' : b = e ∨ b = it := by simpa using hb
        rcases e' with z | z
        · rw [z]; exact hel
        · rw [z]; exact hil
      rw [upd_ne (Nat.ne_of_lt hb')]
      exact (hf b hb).1
  done := by
    intro X hP hw hK hc i pins s σ H E I hf st hg
    subst hP hw hK
    obtain ⟨⟨old, he⟩, hit, hne, hae, hai⟩ := st
    obtain ⟨xs, hq, hx⟩ := hg
    obtain ⟨its, rv, p, hz⟩ := I.tuple hq
    obtain ⟨f0, f1, f2, f3, f4, f5⟩ := hf it (by simp)
    have hl := rv.length
    exact wpAny_pyNext_enum_endT (I.ok.hd hc) he hit p (by simp; omega) fun h' eb => ⟨rfl, I.turned (t' := s.toks) (fun b o hb q => eb b o hb q) f0 f1 f3 f4 f5⟩
  self := fun A i s Q E st h => let ⟨⟨_, he⟩, _⟩ := st; wpAny_pyIter_enum he h
def iEnumT (K : PySem.W.Frag) (ta : TA) : TI := fun σ H R => ta σ H fun vs H1 => ∃ a xs, vs = [.ref a] ∧ SqT K H1 a xs ∧ R (IteT K a) H1
theorem pi_enumT {X : Cx} {e : Expr} {ta : TA} {p pos tpos : Pos} {elts : List Expr} {kk : Nat} (hg : Gl X "enumerate") (hm : X.mg "enumerate" = none) (ha : PA X [e] ta) (hs : starEach [e] X.env = [(false, eval e X.env)] := by rfl) :
    PI X (.Tuple elts kk tpos) (.Call (.Name "enumerate" p) [e] [] pos) (iEnumT X.K ta) := by
  refine ⟨fun pins s σ H R I h => ?_⟩
  refine Call_ (ld_blt I hg hm boot_enumerate (PyProof.Rows.callWith_type1 (thn (ha.run pos pins s σ H _ I h) fun us s1 ⟨vs, H1, I1, r1, q1⟩ => ?_) hs rfl))
  obtain ⟨a, xs, ex, hq, q⟩ := q1
  subst ex
  cases r1 with
  | cons r rr =>
    cases rr
    cases r
    obtain ⟨its, rv, p', hz⟩ := I1.tuple hq
    have hal : a < s1.heap.objs.size := by obtain ⟨_, q, _⟩ := p'; exact Heap.lt_size q
    refine call_enumerate_tuple p' fun h' he hit hsz hk => wpAny_pyIter_enum he ?_
    have I2 : Inv X pins σ H1 { s1 with heap := h' } := I1.kept (t' := s1.toks) hk
    refine ⟨s1.heap.objs.size + 1, [s1.heap.objs.size + 1, s1.heap.objs.size], _, _, H1, rfl, I2, turn_enumT a (s1.heap.objs.size + 1) s1.heap.objs.size, ⟨⟨.none, he⟩, hit, Nat.succ_ne_self _, Nat.ne_of_lt (Nat.lt_succ_of_lt hal), Nat.ne_of_lt hal⟩, fun b hb => ?_, q⟩
    have e' : b = s1.heap.objs.size + 1 ∨ b = s1.heap.objs.size := by simpa using hb
    have hle : s1.heap.objs.size ≤ b := by
      rcases e' with z | z
      · rw [z]; exact Nat.le_add_right _ _
      · rw [z]; exact Nat.le_refl _
    exact I1.fpOk hle (I1.hok.fresh hle)
section
variable {K : PySem.W.Frag} {σ : L2.St} {tt : TT} {te : TE} {g : TG} {vs : List Nat}
theorem r_enumT {tr : TA} {σ : L2.St} {H : Hp} {R : It → Hp → Prop} (h : tr σ H fun vs H1 => ∃ a xs, vs = [.ref a] ∧ SqT K H1 a xs ∧ R (IteT K a) H1) : iEnumT K tr σ H R := h
theorem r_enumL {tr : TA} {σ : L2.St} {H : Hp} {R : It → Hp → Prop} (h : tr σ H fun vs H1 => ∃ a xs, vs = [.ref a] ∧ SqL K H1 a xs ∧ R (Ite K a) H1) : iEnum K tr σ H R := h
/-- a comprehension over enumerate: each turn's pair is new -/
theorem lc_enumT {a D : Addr} {xs : List V} {H1 : Hp} {Qd : Hp → Prop} (Pv : Nat → Hp → Prop) (h0 : Pv 0 (upd H1 D (.lst []))) (hl : ∀ i H, i ≤ xs.length → Pv i H → H a = some (.tup xs)) (hk : ∀ i H p x, H p = none → Pv i H → Pv i (upd H p (.tup x)))
    (hs : ∀ i x H p, xs[i]? = some x → Pv i H → H p = some (.tup [.int (i : Nat), x]) → g (.ref p) (wipe σ vs) H fun σ2 H2 => wipe σ2 vs = wipe σ vs ∧ tt σ2 H2 fun b H3 =>
      if b = true then te σ2 H3 fun y H4 => ∃ acc, H4 D = some (.lst acc) ∧ acc.length < sizeLine ∧ Pv (i + 1) (upd H4 D (.lst (acc ++ [y]))) else Pv (i + 1) H3) (hd : ∀ H, Pv xs.length H → Qd H) :
    ∃ W : Nat → Nat → Hp → Prop, (∃ m, W 0 m (upd H1 D (.lst []))) ∧ ∀ i m H, W i m H →
      ((IteT K a).stop i H ∧ Qd H) ∨ ((IteT K a).go i H ∧ ∃ Nx : Hp → Prop, (∀ H', Nx H' → ∃ m', m' < m ∧ W (i + 1) m' H') ∧ ∀ x H', (IteT K a).yld i H x H' → g x (wipe σ vs) H' fun σ2 H2 => wipe σ2 vs = wipe σ vs ∧ tt σ2 H2 fun b H3 =>
        if b = true then te σ2 H3 fun y H4 => ∃ acc, H4 D = some (.lst acc) ∧ acc.length < sizeLine ∧ Nx (upd H4 D (.lst (acc ++ [y]))) else Nx H3) := by
  refine ⟨fun i m H => m = xs.length - i ∧ i ≤ xs.length ∧ Pv i H, ⟨xs.length, by simp, Nat.zero_le _, h0⟩, ?_⟩
  rintro i m H ⟨rfl, hi, p⟩
  have ha := hl i H hi p
  by_cases hlt : i < xs.length
  · refine .inr ⟨⟨xs, xs[i], SqT.of ha, List.getElem?_eq_getElem hlt⟩, Pv (i + 1), fun H' p' => ⟨xs.length - (i + 1), by omega, rfl, hlt, p'⟩, fun x H' y => ?_⟩
    obtain ⟨T, x', rfl, nT, rfl, hx⟩ := y
    exact hs i x' _ T (hx xs (SqT.of ha)) (hk i H T _ nT p) upd_same
  · have e : i = xs.length := by omega
    subst e
    exact .inl ⟨⟨xs, SqT.of ha, Nat.le_refl _⟩, hd H p⟩
theorem lc_enumL {a D : Addr} {xs : List V} {H1 : Hp} {Qd : Hp → Prop} (Pv : Nat → Hp → Prop) (h0 : Pv 0 (upd H1 D (.lst []))) (hl : ∀ i H, i ≤ xs.length → Pv i H → H a = some (.lst xs)) (hk : ∀ i H p x, H p = none → Pv i H → Pv i (upd H p (.tup x)))
    (hs : ∀ i x H p, xs[i]? = some x → Pv i H → H p = some (.tup [.int (i : Nat), x]) → g (.ref p) (wipe σ vs) H fun σ2 H2 => wipe σ2 vs = wipe σ vs ∧ tt σ2 H2 fun b H3 =>
      if b = true then te σ2 H3 fun y H4 => ∃ acc, H4 D = some (.lst acc) ∧ acc.length < sizeLine ∧ Pv (i + 1) (upd H4 D (.lst (acc ++ [y]))) else Pv (i + 1) H3) (hd : ∀ H, Pv xs.length H → Qd H) :
    ∃ W : Nat → Nat → Hp → Prop, (∃ m, W 0 m (upd H1 D (.lst []))) ∧ ∀ i m H, W i m H →
      ((Ite K a).stop i H ∧ Qd H) ∨ ((Ite K a).go i H ∧ ∃ Nx : Hp → Prop, (∀ H', Nx H' → ∃ m', m' < m ∧ W (i + 1) m' H') ∧ ∀ x H', (Ite K a).yld i H x H' → g x (wipe σ vs) H' fun σ2 H2 => wipe σ2 vs = wipe σ vs ∧ tt σ2 H2 fun b H3 =>
        if b = true then te σ2 H3 fun y H4 => ∃ acc, H4 D = some (.lst acc) ∧ acc.length < sizeLine ∧ Nx (upd H4 D (.lst (acc ++ [y]))) else Nx H3) := by
  refine ⟨fun i m H => m = xs.length - i ∧ i ≤ xs.length ∧ Pv i H, ⟨xs.length, by simp, Nat.zero_le _, h0⟩, ?_⟩
  rintro i m H ⟨rfl, hi, p⟩
  have ha := hl i H hi p
  by_cases hlt : i < xs.length
  · refine .inr ⟨⟨xs, xs[i], SqL.of ha, List.getElem?_eq_getElem hlt⟩, Pv (i + 1), fun H' p' => ⟨xs.length - (i + 1), by omega, rfl, hlt, p'⟩, fun x H' y => ?_⟩
    obtain ⟨T, x', rfl, nT, rfl, hx⟩ := y
    exact hs i x' _ T (hx xs (SqL.of ha)) (hk i H T _ nT p) upd_same
  · have e : i = xs.length := by omega
    subst e
    exact .inl ⟨⟨xs, SqL.of ha, Nat.le_refl _⟩, hd H p⟩
end
end Pw

namespace Pw
open PySem PySem.Spec PyProof.Rows L2 SX TL
theorem Nn_pos {n M : Nat} (h : 2 ^ M ≤ n) (hM : 2 ≤ M) : 1 ≤ Pm.Nn n M := by
  unfold Pm.Nn
  have h2 : (2 : Nat) ^ 2 ≤ 2 ^ M := Nat.pow_le_pow_right (by decide) hM
  have hq : Pm.Q 2 := ⟨Nat.le_refl 2, fun c k hk e => by
    have c2 : 2 ≤ c := pow_base2 (by omega) (by decide) e
    have h1 : (2 : Nat) ^ 2 ≤ 2 ^ k := Nat.pow_le_pow_right (by decide) hk
    have h2 : (2 : Nat) ^ k ≤ c ^ k := Nat.pow_le_pow_left c2 k
    omega⟩
  have h3 : Pm.S (fun c => Pm.I (Pm.Q c ∧ c ^ M ≤ n)) 3 ≤ Pm.S (fun c => Pm.I (Pm.Q c ∧ c ^ M ≤ n)) (n + 1) := Pm.S_le (by omega)
  have h4 : Pm.S (fun c => Pm.I (Pm.Q c ∧ c ^ M ≤ n)) 3 = Pm.S (fun c => Pm.I (Pm.Q c ∧ c ^ M ≤ n)) 2 + Pm.I (Pm.Q 2 ∧ 2 ^ M ≤ n) := rfl
  rw [Pm.I_t ⟨hq, h⟩] at h4
  omega
noncomputable def cg (n j : Nat) : Nat := Pm.Nn n (2 + j) + if j = 0 then 1 else 0
theorem cgl_eq (n M : Nat) : Pm.cgl n M = (List.range (M - 1)).map (cg n) := rfl
theorem cgl_len (n M : Nat) : (Pm.cgl n M).length = M - 1 := by rw [cgl_eq, List.length_map, List.length_range]
theorem cgl_get {n M j : Nat} (h : j < M - 1) : (Pm.cgl n M)[j]? = some (cg n j) := by rw [cgl_eq, List.getElem?_map, List.getElem?_range h]; rfl
theorem cg_last {n M : Nat} (h : Pm.Mst n M) : 1 ≤ cg n (M - 2) := by
  unfold cg
  have h2 := h.two
  rcases h.lo with z | z
  · rw [if_pos (by omega)]
    omega
  · have := Nn_pos z h2
    rw [show 2 + (M - 2) = M by omega]
    omega
theorem sum_filter (c : Nat → Bool) (f : Nat → Nat) : ∀ i : Nat, (((List.range i).filter c).map f).sum = Pm.S (fun j => if c j = true then f j else 0) i
  | 0 => rfl
  | i + 1 => by
    rw [List.range_succ, List.filter_append, List.map_append, List.sum_append, sum_filter c f i]
    show _ = Pm.S _ i + (if c i = true then f i else 0)
    by_cases z : c i = true
    · rw [if_pos z]
      simp [z]
    · rw [if_neg z]
      simp [z]
/-- what is summed of the counts: those whose greatest exponent is a multiple -/
theorem tog {n M e r : Nat} (hM : Pm.Mst n M) (he : 2 ≤ e) (hr : Pm.IsRoot n e r) (n1 : 1 ≤ n) : (((List.range (M - 1)).filter fun j => decide ((j + 2) % e = 0)).map (cg n)).sum + (if e = 2 then 0 else 1) = r := by
  have r1 : 1 ≤ r := by
    rcases Nat.eq_zero_or_pos r with z | z
    · have := hr.2
      rw [z, Nat.zero_add, Nat.one_pow] at this
      omega
    · exact z
  have h2 := hM.two
  rw [sum_filter]
  have e1 : ∀ j, j < M - 1 → (if decide ((j + 2) % e = 0) = true then cg n j else 0) = (if e ∣ 2 + j then Pm.Nn n (2 + j) else 0) + (if j = 0 then (if e = 2 then 1 else 0) else 0) := fun j _ => by
    by_cases z : e ∣ 2 + j
    · have z' : (j + 2) % e = 0 := Nat.mod_eq_zero_of_dvd (by rw [Nat.add_comm]; exact z)
      rw [if_pos (decide_eq_true z'), if_pos z]
      unfold cg
      by_cases w : j = 0
      · subst w
        have := Nat.le_of_dvd (by decide) z
        rw [if_pos rfl, if_pos rfl, if_pos (by omega)]
      · rw [if_neg w, if_neg w]
    · have z' : ¬ (j + 2) % e = 0 := fun w => z (by rw [Nat.add_comm]; exact Nat.dvd_of_mod_eq_zero w)
      rw [if_neg (fun w => z' (of_decide_eq_true w)), if_neg z]
      by_cases w : j = 0
      · subst w
        rw [if_pos rfl, if_neg (fun q => z (by rw [q]; exact Nat.dvd_refl 2))]
      · rw [if_neg w]
  rw [Pm.S_congr e1, Pm.S_add, Pm.S_one, if_pos (by omega)]
  have h3 := Pm.roots_split (show 1 ≤ e by omega) hr hM.hi
  have h4 := Pm.S_from2 (fun g => if e ∣ g then Pm.Nn n g else 0) (M - 1)
  have h5 : Pm.S (fun g => if 2 ≤ g then (if e ∣ g then Pm.Nn n g else 0) else 0) (M - 1 + 2) = Pm.S (fun g => if 1 ≤ g ∧ e ∣ g then Pm.Nn n g else 0) (M + 1) := by
    rw [show M - 1 + 2 = M + 1 by omega]
    refine Pm.S_congr fun g _ => ?_
    by_cases z : 1 ≤ g ∧ e ∣ g
    · have := Nat.le_of_dvd (by omega) z.2
      rw [if_pos z, if_pos (by omega), if_pos z.2]
    · rw [if_neg z]
      by_cases w : 2 ≤ g
      · rw [if_pos w, if_neg fun q => z ⟨by omega, q⟩]
      · rw [if_neg w]
  rw [← h4, h5, h3]
  by_cases z : e = 2
  · rw [if_pos z, if_pos z]
    omega
  · rw [if_neg z, if_neg z]
    omega
theorem cntP_succ {n : Nat} (n1 : 1 ≤ n) : Pm.cntP n = Pm.cntP (n - 1) + Pm.I (Pm.IsPow n) := by
  rw [Pm.cntP_all, Pm.cntP_all, show n - 1 + 1 = n by omega]
  show Pm.S _ n + Pm.I (1 ≤ n ∧ Pm.IsPow n) = _
  rw [Pm.I_congr (show (1 ≤ n ∧ Pm.IsPow n) ↔ Pm.IsPow n from ⟨fun h => h.2, fun h => ⟨n1, h⟩⟩)]
theorem Nn_succ {n e : Nat} (n1 : 1 ≤ n) (he : 1 ≤ e) : Pm.Nn n e = Pm.Nn (n - 1) e + Pm.I (2 ≤ n ∧ gexp n = e) := by
  rw [← S_gexp he, ← S_gexp he, show n - 1 + 1 = n by omega]
  rfl
/-- where the counts to n and to one less differ -/
theorem cg_next {n M : Nat} {ls : List Nat} (n1 : 1 ≤ n) (hM : Pm.Mst n M) (hl : CG (n - 1) ls) {j : Nat} (hj : j < M - 1) : ls.length ≤ M - 1 ∧ (cg n j = ls.getD j 0 ↔ gexp n ≠ j + 2) := by
  rcases hl with ⟨z, rfl⟩ | ⟨n2, M', hM', rfl⟩
  · have hn : n = 1 := by omega
    subst hn
    have hM2 : M = 2 := hM.uniq ⟨by decide, by decide, .inl rfl⟩
    subst hM2
    have hj0 : j = 0 := by omega
    subst hj0
    refine ⟨Nat.zero_le _, ?_⟩
    show Pm.Nn 1 2 + 1 = 0 ↔ _
    rw [gexp_1]
    exact ⟨fun h => by omega, fun h => absurd rfl h⟩
  · have hMM : M' ≤ M := by
      refine Nat.le_of_not_lt fun z => ?_
      have h1 := hM.hi
      have h2 := hM.two
      have h3 : (2 : Nat) ^ (M + 1) ≤ 2 ^ M' := Nat.pow_le_pow_right (by decide) z
      rcases hM'.lo with w | w <;> omega
    refine ⟨by rw [cgl_len]; omega, ?_⟩
    have hd : (Pm.cgl (n - 1) M').getD j 0 = cg (n - 1) j := by
      rw [List.getD_eq_getElem?_getD]
      by_cases w : j < M' - 1
      · rw [cgl_get w]; rfl
      · rw [List.getElem?_eq_none (by rw [cgl_len]; omega)]
        have hM'2 := hM'.two
        unfold cg
        rw [Pm.Nn_zero hM'.hi (by omega), if_neg (by omega)]
        rfl
    rw [hd]
    unfold cg
    rw [Nn_succ n1 (by omega)]
    by_cases w : gexp n = 2 + j
    · rw [Pm.I_t ⟨by omega, w⟩]
      constructor
      · intro h
        omega
      · intro h
        omega
    · rw [Pm.I_f fun q => w q.2]
      constructor
      · intro h
        omega
      · intro h
        omega
theorem gexp_le_mst {n M : Nat} (n1 : 1 ≤ n) (hM : Pm.Mst n M) : gexp n ≤ M := by
  have h2 := hM.two
  by_cases z : n = 1
  · rw [z, gexp_1]; exact h2
  · obtain ⟨c, c2, _, e⟩ := gexp_at (show 2 ≤ n by omega)
    have h1 := Pm.lt_of_two_pow (g := gexp n) (K := M + 1) (n := n) (by
      conv => rhs; rw [← e]
      exact Nat.pow_le_pow_left c2 _) hM.hi
    omega
theorem range_one (k : Nat) : ∀ m : Nat, (List.range m).filter (fun j => decide (j = k)) = if k < m then [k] else []
  | 0 => rfl
  | m + 1 => by
    rw [List.range_succ, List.filter_append, range_one k m]
    by_cases z : m = k
    · subst z
      rw [if_neg (Nat.lt_irrefl _), if_pos (Nat.lt_succ_self _)]
      simp
    · by_cases w : k < m
      · rw [if_pos w, if_pos (by omega)]
        simp [z]
      · rw [if_neg w, if_neg (by omega)]
        simp [z]
/-- the exponents at which they differ -/
theorem changed_eq {n M : Nat} {ls : List Nat} (n1 : 1 ≤ n) (hM : Pm.Mst n M) (hl : CG (n - 1) ls) : ((List.range (M - 1)).filter fun j => !decide (cg n j = ls.getD j 0)).map (· + 2) = if 1 < gexp n then [gexp n] else [] := by
  have h1 : ((List.range (M - 1)).filter fun j => !decide (cg n j = ls.getD j 0)) = (List.range (M - 1)).filter fun j => decide (j + 2 = gexp n) := List.filter_congr fun j hj => by
    have h2 := (cg_next n1 hM hl (List.mem_range.mp hj)).2
    by_cases z : j + 2 = gexp n
    · rw [decide_eq_true z, decide_eq_false fun q => (h2.mp q) z.symm]
      rfl
    · rw [decide_eq_false z, decide_eq_true (h2.mpr fun q => z q.symm)]
      rfl
  rw [h1]
  have hle := gexp_le_mst n1 hM
  by_cases z : 1 < gexp n
  · rw [if_pos z]
    have h3 : ((List.range (M - 1)).filter fun j => decide (j + 2 = gexp n)) = (List.range (M - 1)).filter fun j => decide (j = gexp n - 2) := List.filter_congr fun j _ => decide_eq_decide.mpr ⟨fun h => by omega, fun h => by omega⟩
    rw [h3, range_one, if_pos (by omega)]
    show [gexp n - 2 + 2] = [gexp n]
    rw [show gexp n - 2 + 2 = gexp n by omega]
  · rw [if_neg z]
    have h3 : ((List.range (M - 1)).filter fun j => decide (j + 2 = gexp n)) = [] := List.filter_eq_nil_iff.mpr fun j _ h => by
      have := of_decide_eq_true h
      omega
    rw [h3]
    rfl
theorem pad_get {ls : List Nat} {k j : Nat} (h : j < ls.length + k) : (ls ++ List.replicate k 0)[j]? = some (ls.getD j 0) := by
  rw [List.getD_eq_getElem?_getD]
  by_cases z : j < ls.length
  · rw [List.getElem?_append_left z, List.getElem?_eq_getElem z]
    rfl
  · rw [List.getElem?_append_right (by omega), List.getElem?_eq_none (Nat.le_of_not_lt z), List.getElem?_replicate, if_pos (by omega)]
    rfl
def spTog : Sp := fun vs H Q _ => ∃ (d : Addr) (n m : Nat), vs = [.ref d, .int (m : Int)] ∧ m ≤ 10 ^ 40 ∧ SeedAt H d n ∧ n ≤ 2 ^ 40 ∧ ∀ H', Keep d H H' → SeedAt H' d (n + 100) → Q (.bl true) H'
def spNext10 : Sp := fun vs H Q _ => ∃ m : Nat, vs = [.int (m : Int)] ∧ 1 ≤ m ∧ m ≤ 10 ^ 40 ∧ ∀ H', Same H H' → Q (.bl true) H'
theorem mst_M {n M : Nat} (h : Pm.Mst n M) (hb : n < 2 ^ 190) : M ≤ 190 := by
  rcases h.lo with z | z
  · omega
  · have := Pm.lt_of_two_pow z hb
    omega
theorem fil_range (c : Nat → Bool) (i : Nat) : (List.range (i + 1)).filter c = if c i = true then (List.range i).filter c ++ [i] else (List.range i).filter c := by
  rw [List.range_succ, List.filter_append]
  by_cases z : c i = true
  · rw [if_pos z]; simp [z]
  · rw [if_neg z]; simp [z]
theorem CG.len_le {n : Nat} {ks : List Nat} (h : CG n ks) (hb : n < 2 ^ 190) : ks.length ≤ 190 := by
  rcases h with ⟨_, rfl⟩ | ⟨_, M, hM, rfl⟩
  · exact Nat.zero_le _
  · have := mst_M hM hb
    rw [cgl_len]
    omega
theorem r_cutN {c A B : Prop} [Decidable c] (hB : B) (hA : ¬ c → B → A) : if (!decide c) = true then A else B := r_iteN (fun n => hA n hB) fun _ => hB
theorem r_cutT {c A B : Prop} [Decidable c] (hB : B) (hA : c → B → A) : if decide c = true then A else B := r_ite (fun n => hA n hB) fun _ => hB
/-- f(a and b), a and b without any effect -/
theorem r_CBand {r : List V → Hp → VK → Prop} {ta tb : TE} {σ : L2.St} {H : Hp} {Q : VK} {c1 c2 : Bool} (h1 : ∀ Q : VK, Q (.bl c1) H → ta σ H Q) (h2 : ∀ Q : VK, Q (.bl c2) H → tb σ H Q) (q : r [.bl (c1 && c2)] H Q) : tCB r (tCons (tAndV ta tb) tNil) σ H Q := by
  refine r_CB (r_cons (r_andV (h1 _ ⟨c1, rfl, ?_⟩)))
  cases c1 with
  | true => exact h2 _ (r_nil (QA := fun xs H2 => r (.bl c2 :: xs) H2 Q) q)
  | false => exact iteF (show r [.bl false] H Q from q)
end Pw

namespace Pm
theorem cntP_mono {n m : Nat} (h : n ≤ m) : cntP n ≤ cntP m := by
  rw [cntP_all, cntP_all]
  exact S_le (by omega)
theorem cntP_step (n : Nat) : cntP (n + 1) = cntP n + I (IsPow (n + 1)) := by
  have h := Pw.cntP_succ (n := n + 1) (by omega)
  exact h
/-- no powers between -/
theorem cntP_same {n m : Nat} (h : n ≤ m) (hno : ∀ x, n < x → x ≤ m → ¬ IsPow x) : cntP m = cntP n := by
  obtain ⟨k, rfl⟩ := Nat.exists_eq_add_of_le h
  clear h
  induction k with
  | zero => rfl
  | succ k ih =>
    rw [show n + (k + 1) = n + k + 1 by omega, cntP_step, I_f (hno _ (by omega) (by omega)), ih fun x a b => hno x a (by omega)]
    rfl
/-- the next power above n -/
structure NextP (n v : Nat) : Prop where
  gt : n < v
  pow : IsPow v
  min : ∀ x, n < x → IsPow x → v ≤ x
theorem NextP.cnt {n v : Nat} (h : NextP n v) : cntP v = cntP n + 1 := by
  have h1 := h.gt
  obtain ⟨w, rfl⟩ : ∃ w, v = w + 1 := ⟨v - 1, by omega⟩
  rw [cntP_step, I_t h.pow, cntP_same (n := n) (m := w) (by omega) fun x a b p => by have := h.min x a p; omega]
theorem NextP.uniq {n v w : Nat} (h : NextP n v) (h' : NextP n w) : v = w := Nat.le_antisymm (h.min _ h'.gt h'.pow) (h'.min _ h.gt h.pow)
/-- the power at a place -/
structure PowAt (p v : Nat) : Prop where
  pos : 1 ≤ v
  pow : IsPow v
  cnt : cntP v = p + 1
theorem PowAt.uniq {p v w : Nat} (h : PowAt p v) (h' : PowAt p w) : v = w := by
  have key : ∀ {a b : Nat}, PowAt p a → PowAt p b → ¬ a < b := fun {a b} ha hb z => by
    obtain ⟨c, rfl⟩ : ∃ c, b = c + 1 := ⟨b - 1, by omega⟩
    have h1 := cntP_step c
    rw [I_t hb.pow, hb.cnt] at h1
    have h2 := cntP_mono (show a ≤ c by omega)
    rw [ha.cnt] at h2
    omega
  have h1 := key h h'
  have h2 := key h' h
  omega
theorem cntP_sq {m K : Nat} (hm : 1 ≤ m) (hK : m < 2 ^ K) : cntP (m * m) = m + Od m K := by
  have : 0 < m * m := Nat.mul_pos hm hm
  unfold cntP
  rw [if_neg (by omega)]
  exact cnt_sq hm hK
theorem cntP_root {m v : Nat} (h : m * m ≤ v) : m ≤ cntP v := by
  by_cases z : m = 0
  · omega
  · have h1 := cntP_sq (m := m) (K := m) (by omega) (Nat.lt_two_pow_self)
    have h2 := cntP_mono h
    omega
/-- the powers at a place are not great -/
theorem pow_lt_of_cnt {v N : Nat} (h : cntP v ≤ N) : v < (N + 1) * (N + 1) := by
  refine Nat.lt_of_not_le fun z => ?_
  have := cntP_root z
  omega
/-- what the program looks at for the next power -/
noncomputable def nxl (n c : Nat) : List Nat := (List.range c).map fun i => (Rt n (2 + i) + 1) ^ (2 + i)
theorem nxl_gt {n c : Nat} : ∀ y ∈ nxl n c, n < y ∧ IsPow y := fun y hy => by
  obtain ⟨i, _, rfl⟩ := List.mem_map.mp hy
  exact ⟨(Rt_is (by omega)).2, _, _, by omega, rfl⟩
theorem nxl_min {n c v : Nat} (hc : 1 ≤ c) (hb : n < 2 ^ (c + 1)) (hm : v ∈ nxl n c) (hle : ∀ y ∈ nxl n c, v ≤ y) : NextP n v := by
  obtain ⟨h1, h2⟩ := nxl_gt v hm
  refine ⟨h1, h2, ?_⟩
  rintro x hx ⟨b, k, k2, rfl⟩
  have mem : ∀ k, 2 ≤ k → k ≤ c + 1 → v ≤ (Rt n k + 1) ^ k := fun k a b => by
    refine hle _ (List.mem_map.mpr ⟨k - 2, List.mem_range.mpr (by omega), ?_⟩)
    rw [show 2 + (k - 2) = k by omega]
  by_cases hk : k ≤ c + 1
  · refine Nat.le_trans (mem k k2 hk) (Nat.pow_le_pow_left ?_ k)
    have hr := Rt_is (n := n) (show 1 ≤ k by omega)
    refine Nat.lt_of_not_le fun z => ?_
    have := Nat.pow_le_pow_left z k
    have := hr.1
    omega
  · have h3 := mem (c + 1) (by omega) (Nat.le_refl _)
    refine Nat.le_trans h3 ?_
    by_cases hn : n = 0
    · subst hn
      have : Rt 0 (c + 1) = 0 := Rt_eq (by omega) ⟨by rw [Nat.zero_pow (by omega)]; exact Nat.le_refl _, by rw [Nat.zero_add, Nat.one_pow]; exact Nat.zero_lt_one⟩
      rw [this, Nat.zero_add, Nat.one_pow]
      omega
    · rw [Rt_one (by omega) (by omega) hb]
      have b2 : 2 ≤ b := by
        refine Nat.le_of_not_lt fun z => ?_
        have : b = 0 ∨ b = 1 := by omega
        rcases this with rfl | rfl
        · rw [Nat.zero_pow (by omega)] at hx; omega
        · rw [Nat.one_pow] at hx; omega
      exact Nat.le_trans (Nat.pow_le_pow_right (by decide) (show c + 1 ≤ k by omega)) (Nat.pow_le_pow_left b2 k)
theorem up_take {zs : List Nat} (h : zs.Pairwise (· < ·)) {i : Nat} (hi : i < zs.length) : (zs.filter fun x => decide (x ≤ zs[i])).length = i + 1 := by
  have e : zs = zs.take (i + 1) ++ zs.drop (i + 1) := (List.take_append_drop _ _).symm
  have h1 : (zs.take (i + 1)).filter (fun x => decide (x ≤ zs[i])) = zs.take (i + 1) := List.filter_eq_self.mpr fun x hx => by
    obtain ⟨j, hj, rfl⟩ := List.getElem_of_mem hx
    rw [List.length_take] at hj
    rw [List.getElem_take]
    refine decide_eq_true ?_
    by_cases z : j = i
    · subst z; exact Nat.le_refl _
    · exact Nat.le_of_lt (List.pairwise_iff_getElem.mp h j i (by omega) hi (by omega))
  have h2 : (zs.drop (i + 1)).filter (fun x => decide (x ≤ zs[i])) = [] := List.filter_eq_nil_iff.mpr fun x hx w => by
    obtain ⟨j, hj, rfl⟩ := List.getElem_of_mem hx
    rw [List.length_drop] at hj
    rw [List.getElem_drop] at w
    have h3 := List.pairwise_iff_getElem.mp h i (i + 1 + j) hi (by omega) (by omega)
    have := of_decide_eq_true w
    omega
  calc (zs.filter fun x => decide (x ≤ zs[i])).length = ((zs.take (i + 1) ++ zs.drop (i + 1)).filter fun x => decide (x ≤ zs[i])).length := by rw [← e]
    _ = i + 1 := by
      rw [List.filter_append, h1, h2, List.append_nil, List.length_take]
      omega
theorem near_at {zs : List Nat} {M i : Nat} (hu : zs.Pairwise (· < ·)) (hz : ∀ x, x ∈ zs ↔ 1 ≤ x ∧ x ≤ M ∧ IsPow x) (hi : i < zs.length) : PowAt i zs[i] := by
  obtain ⟨h1, h2, h3⟩ := (hz _).mp (List.getElem_mem hi)
  exact ⟨h1, h3, by rw [← cnt_filter (hu.imp fun a => Nat.ne_of_lt a) hz h2, up_take hu hi]⟩
theorem cnt_less {zs : List Nat} {M n : Nat} (hn : zs.Nodup) (hz : ∀ x, x ∈ zs ↔ 1 ≤ x ∧ x ≤ M ∧ IsPow x) (h : n ≤ M + 1) : (zs.filter fun x => decide (x < n)).length = cntP (n - 1) := by
  rw [← cnt_filter hn hz (show n - 1 ≤ M by omega)]
  congr 1
  refine List.filter_congr fun x hx => decide_eq_decide.mpr ?_
  have := (hz x).mp hx
  omega
end Pm
namespace Pw
open PySem PySem.Spec PyProof.Rows L2 SX TL
/-- exponents 2, 3, .. for n -/
def spExps : Sp := fun vs H Q _ => ∃ n : Nat, vs = [.int (n : Int)] ∧ n < 2 ^ 190 ∧ ∀ (c : Nat) (p : Addr) (H' : Hp), 1 ≤ c → c ≤ 190 → n < 2 ^ (c + 1) → H p = none → Same H H' → H' p = some (.lst (nn ((List.range c).map (2 + ·)))) → Q (.ref p) H'
def spNextPower : Sp := fun vs H Q _ => ∃ n : Nat, vs = [.int (n : Int)] ∧ n < 2 ^ 190 ∧ ∀ (v : Nat) (H' : Hp), Pm.NextP n v → Same H H' → Q (.int (v : Int)) H'
def spOthers : Sp := fun vs H Q _ => ∃ m : Nat, vs = [.int ((m * m : Nat) : Int)] ∧ 1 ≤ m ∧ m < 2 ^ 90 ∧ ∀ H', Same H H' → Q (.int ((Pm.Od m 90 : Nat) : Int)) H'
def spNarrower : Sp := fun vs H Q _ => ∃ (N : Int) (l h : Nat), vs = [.int N, .int (l : Int), .int (h : Int)] ∧ 1 ≤ l ∧ 1 ≤ h ∧ l < 2 ^ 90 ∧ h < 2 ^ 90 ∧ ∀ (p : Addr) (H' : Hp), H p = none → Same H H' → H' p = some (.tup [.int (N - ((Pm.Od h 90 : Nat) : Int)), .int (N - ((Pm.Od l 90 : Nat) : Int))]) → Q (.ref p) H'
def spNth : Sp := fun vs H Q _ => ∃ n : Nat, vs = [.int (n : Int)] ∧ n < 2 ^ 60 ∧ ∀ (v : Nat) (H' : Hp), Pm.PowAt n v → v < 2 ^ 124 → Same H H' → Q (.int (v : Int)) H'
def spPlaceOf : Sp := fun vs H Q _ => ∃ n : Nat, vs = [.int (n : Int)] ∧ n < 2 ^ 190 ∧ ∀ H', Same H H' → Q (.int ((Pm.cntP (n - 1) : Nat) : Int)) H'
theorem exps_ex {n : Nat} (hb : n < 2 ^ 190) : ∃ c : Nat, (if (2 : Int) > (Builtin.Int.intBits (n : Int) : Int) then (2 : Int) else (Builtin.Int.intBits (n : Int) : Int)) = ((c + 1 : Nat) : Int) ∧ 1 ≤ c ∧ c ≤ 190 ∧ n < 2 ^ (c + 1) := by
  have h1 := bits_lt n
  have h2 := bits_le hb
  generalize Builtin.Int.intBits (n : Int) = b at *
  by_cases z : (2 : Int) > (b : Int)
  · exact ⟨1, if_pos z, Nat.le_refl 1, by decide, Nat.lt_of_lt_of_le h1 (Nat.pow_le_pow_right (by decide) (by omega))⟩
  · exact ⟨b - 1, by rw [if_neg z]; omega, by omega, by omega, by rw [show b - 1 + 1 = b by omega]; exact h1⟩
theorem rgV_nn {c : Nat} : rgV 2 (((c + 1 : Nat) : Int) + 1) = nn ((List.range c).map (2 + ·)) := by
  unfold rgV
  rw [show ((((c + 1 : Nat) : Int) + 1) - 2).toNat = c by omega, nn, List.map_map, List.map_map]
  refine List.map_congr_left fun i _ => ?_
  show V.int (2 + (i : Int)) = V.int (((2 + i : Nat)) : Int)
  rw [show (2 : Int) + (i : Int) = ((2 + i : Nat) : Int) by omega]
theorem r_tRg2 {ta tb : TE} {σ : L2.St} {H : Hp} {R : Int → Int → Hp → Prop} (h : ta σ H fun x H1 => tb σ H1 fun y H2 => ∃ i j, x = .int i ∧ y = .int j ∧ R i j H2) : tRg2 ta tb σ H R := h
theorem r_lstRg {te : L2.St → Hp → (Int → Int → Hp → Prop) → Prop} {σ : L2.St} {H : Hp} {Q : VK} (h : te σ H fun a b H1 => RgOk a b ∧ ∀ q, H1 q = none → Q (.ref q) (upd H1 q (.lst (rgV a b)))) : tLstRg te σ H Q := h
def spLawIsPow : Sp := fun vs H Q _ => ∃ n : Nat, vs = [.int (n : Int)] ∧ n < 2 ^ 133 ∧ ∀ b : Bool, (b = true ↔ 1 ≤ n ∧ Pm.IsPow n) → Q (.bl b) H
def spPlaceR : Sp := fun vs H Q _ => ∃ (d p : Addr) (n : Nat), vs = [.ref d, .ref p] ∧ SeedAt H d n ∧ n ≤ 2 ^ 40 ∧ p ≠ d ∧ H p = some (.lst ((sgRow 139).map V.int)) ∧ ∀ H', Keep d H H' → SeedAt H' d (n + 100) → Q (.bl true) H'
end Pw

namespace Pm
/-- the last power below n, or none -/
def LastP (n : Nat) : Option Nat → Prop
  | none => n ≤ 1
  | some v => v < n ∧ 1 ≤ v ∧ IsPow v ∧ ∀ x, x < n → 1 ≤ x → IsPow x → x ≤ v
theorem isPow1 : IsPow 1 := ⟨1, 2, Nat.le_refl 2, rfl⟩
theorem LastP.uniq {n : Nat} : ∀ {o o' : Option Nat}, LastP n o → LastP n o' → o = o'
  | none, none, _, _ => rfl
  | none, some v, h, h' => by
    have a : n ≤ 1 := h
    have := h'.1
    have := h'.2.1
    omega
  | some v, none, h, h' => by
    have a : n ≤ 1 := h'
    have := h.1
    have := h.2.1
    omega
  | some v, some w, h, h' => by
    have a := h.2.2.2 w h'.1 h'.2.1 h'.2.2.1
    have b := h'.2.2.2 v h.1 h.2.1 h.2.2.1
    rw [Nat.le_antisymm a b]
noncomputable def lsl (n c : Nat) : List Nat := (List.range c).map fun i => Rt n (2 + i) ^ (2 + i)
theorem lsl_max {n c v : Nat} (n1 : 1 ≤ n) (hc : 1 ≤ c) (hb : n < 2 ^ (c + 1)) (hm : v ∈ lsl n c) (hge : ∀ y ∈ lsl n c, y ≤ v) : LastP (n + 1) (some v) := by
  obtain ⟨i, _, rfl⟩ := List.mem_map.mp hm
  have hr := Rt_is (n := n) (show 1 ≤ 2 + i by omega)
  have r1 : 1 ≤ Rt n (2 + i) := by
    rcases Nat.eq_zero_or_pos (Rt n (2 + i)) with z | z
    · have := hr.2
      rw [z, Nat.zero_add, Nat.one_pow] at this
      omega
    · exact z
  refine ⟨by have := hr.1; omega, Nat.pow_pos r1, ⟨_, _, by omega, rfl⟩, ?_⟩
  rintro x hx x1 ⟨b, k, k2, rfl⟩
  by_cases hk : k ≤ c + 1
  · have hr2 := Rt_is (n := n) (show 1 ≤ k by omega)
    have h1 : b ≤ Rt n k := by
      refine Nat.le_of_not_lt fun z => ?_
      have := Nat.pow_le_pow_left (show Rt n k + 1 ≤ b by omega) k
      have := hr2.2
      omega
    refine Nat.le_trans (Nat.pow_le_pow_left h1 k) (hge _ (List.mem_map.mpr ⟨k - 2, List.mem_range.mpr (by omega), ?_⟩))
    rw [show 2 + (k - 2) = k by omega]
  · have b1 : b ≤ 1 := by
      refine Nat.le_of_not_lt fun z => ?_
      have h1 := Nat.pow_le_pow_left (show 2 ≤ b by omega) k
      have h2 := Nat.pow_le_pow_right (show 0 < 2 by decide) (show c + 1 ≤ k by omega)
      omega
    have h3 : b ^ k ≤ 1 := by
      have := Nat.pow_le_pow_left b1 k
      rwa [Nat.one_pow] at this
    have := Nat.pow_pos (n := 2 + i) r1
    omega
/-- the nearest power -/
def NearP (n w : Nat) : Prop := (1 ≤ n ∧ IsPow n ∧ w = n) ∨ (¬ (1 ≤ n ∧ IsPow n) ∧ ∃ (o : Option Nat) (v : Nat), LastP n o ∧ NextP n v ∧ w = match o with | none => v | some l => if v - n < n - l then v else l)
theorem NearP.uniq {n w w' : Nat} (h : NearP n w) (h' : NearP n w') : w = w' := by
  rcases h with ⟨a, b, rfl⟩ | ⟨a, o, v, h1, h2, rfl⟩
  · rcases h' with ⟨_, _, e⟩ | ⟨a', _⟩
    · exact e.symm
    · exact absurd ⟨a, b⟩ a'
  · rcases h' with ⟨a', b', _⟩ | ⟨_, o', v', h1', h2', rfl⟩
    · exact absurd ⟨a', b'⟩ a
    · rw [h1.uniq h1', h2.uniq h2']
/-! ### the law's own search -/
structure Bs (n E : Nat) (o : Option Nat) (g : Nat) : Prop where
  none1 : o = none → n ≤ 1
  lo : ∀ l, o = some l → l < n ∧ 1 ≤ l ∧ IsPow l ∧ ∀ c k, 2 ≤ k → k < E → c ^ k < n → c ^ k ≤ l
  gt : n < g
  gp : IsPow g
  hi : ∀ c k, 2 ≤ k → k < E → n < c ^ k → g ≤ c ^ k
  top : (n = 0 ∧ g = 1) ∨ (1 ≤ n ∧ (g ≤ 4 ∨ g ≤ 2 * n))
theorem Bs.end {n E g : Nat} {o : Option Nat} (h : Bs n E o g) (hE : 2 * n < 2 ^ E) (E2 : 2 ≤ E) : LastP n o ∧ NextP n g := by
  have h22 : (2 : Nat) ^ 2 ≤ 2 ^ E := Nat.pow_le_pow_right (by decide) E2
  refine ⟨?_, h.gt, h.gp, ?_⟩
  · cases o with
    | none => exact h.none1 rfl
    | some l =>
      obtain ⟨h1, h2, h3, h4⟩ := h.lo l rfl
      refine ⟨h1, h2, h3, ?_⟩
      rintro x hx x1 ⟨c, k, k2, rfl⟩
      by_cases z : k < E
      · exact h4 c k k2 z hx
      · have c1 : c ≤ 1 := by
          refine Nat.le_of_not_lt fun w => ?_
          have a1 := Nat.pow_le_pow_left (show 2 ≤ c by omega) k
          have a2 := Nat.pow_le_pow_right (show 0 < 2 by decide) (show E ≤ k by omega)
          omega
        have := Nat.pow_le_pow_left c1 k
        rw [Nat.one_pow] at this
        omega
  · rintro x hx ⟨c, k, k2, rfl⟩
    by_cases z : k < E
    · exact h.hi c k k2 z hx
    · rcases h.top with ⟨_, rfl⟩ | ⟨n1, w⟩
      · omega
      · by_cases c2 : 2 ≤ c
        · have a1 := Nat.pow_le_pow_left c2 k
          have a2 := Nat.pow_le_pow_right (show 0 < 2 by decide) (show E ≤ k by omega)
          omega
        · have c1 : c = 0 ∨ c = 1 := by omega
          rcases c1 with rfl | rfl
          · rw [Nat.zero_pow (by omega)] at hx; omega
          · rw [Nat.one_pow] at hx
            omega
theorem Bs.new {n b : Nat} (hb : n < 2 ^ b) (hb2 : 1 ≤ n → 2 ^ (b - 1) ≤ n) : Bs n 2 (if n ≤ 1 then none else some 1) (if n = 0 then 1 else if n ≤ 3 then 4 else 2 ^ b) := by
  refine ⟨fun z => ?_, fun l e => ?_, ?_, ?_, fun c k k2 kE => absurd kE (by omega), ?_⟩
  · by_cases h : n ≤ 1
    · exact h
    · rw [if_neg h] at z; cases z
  · by_cases h : n ≤ 1
    · rw [if_pos h] at e; cases e
    · rw [if_neg h] at e
      cases e
      exact ⟨by omega, Nat.le_refl 1, isPow1, fun c k k2 kE => absurd kE (by omega)⟩
  · by_cases h : n = 0
    · rw [if_pos h]; omega
    · rw [if_neg h]
      by_cases h3 : n ≤ 3
      · rw [if_pos h3]; omega
      · rw [if_neg h3]; exact hb
  · by_cases h : n = 0
    · rw [if_pos h]; exact isPow1
    · rw [if_neg h]
      by_cases h3 : n ≤ 3
      · rw [if_pos h3]; exact ⟨2, 2, Nat.le_refl 2, rfl⟩
      · rw [if_neg h3]
        refine ⟨2, b, Nat.le_of_not_lt fun z => ?_, rfl⟩
        have := Nat.pow_le_pow_right (show 0 < 2 by decide) (show b ≤ 1 by omega)
        omega
  · by_cases h : n = 0
    · exact .inl ⟨h, if_pos h⟩
    · refine .inr ⟨by omega, ?_⟩
      rw [if_neg h]
      by_cases h3 : n ≤ 3
      · rw [if_pos h3]; exact .inl (Nat.le_refl 4)
      · rw [if_neg h3]
        refine .inr ?_
        have h1 := hb2 (by omega)
        have b1 : 1 ≤ b := by
          rcases Nat.eq_zero_or_pos b with z | z
          · rw [z] at hb; omega
          · exact z
        have : 2 ^ b = 2 * 2 ^ (b - 1) := by
          conv => lhs; rw [show b = (b - 1) + 1 by omega, Nat.pow_succ, Nat.mul_comm]
        omega
theorem Bs.step {n E l g r1 r2 : Nat} (h : Bs n E (some l) g) (n2 : 2 ≤ n) (E2 : 2 ≤ E) (h1 : IsRoot (n - 1) E r1) (h2 : IsRoot n E r2) : Bs n (E + 1) (some (max l (r1 ^ E))) (min g ((r2 + 1) ^ E)) := by
  have l1 := h.lo l rfl
  have r11 : 1 ≤ r1 := by
    rcases Nat.eq_zero_or_pos r1 with z | z
    · have := h1.2
      rw [z, Nat.zero_add, Nat.one_pow] at this
      omega
    · exact z
  have hp : 1 ≤ r1 ^ E := Nat.pow_pos r11
  have h11 := h1.1
  refine ⟨(fun z => nomatch z), fun l' e => ?_, ?_, ?_, fun c k k2 kE hc => ?_, ?_⟩
  · cases e
    refine ⟨Nat.max_lt.mpr ⟨l1.1, by omega⟩, Nat.le_trans l1.2.1 (Nat.le_max_left _ _), ?_, fun c k k2 kE hc => ?_⟩
    · rcases Nat.le_total l (r1 ^ E) with z | z
      · rw [Nat.max_eq_right z]; exact ⟨r1, E, E2, rfl⟩
      · rw [Nat.max_eq_left z]; exact l1.2.2.1
    · by_cases z : k = E
      · subst z
        refine Nat.le_trans (Nat.pow_le_pow_left ?_ k) (Nat.le_max_right _ _)
        refine Nat.le_of_not_lt fun w => ?_
        have := Nat.pow_le_pow_left (show r1 + 1 ≤ c by omega) k
        have := h1.2
        omega
      · exact Nat.le_trans (l1.2.2.2 c k k2 (by omega) hc) (Nat.le_max_left _ _)
  · have := h2.2
    exact Nat.lt_min.mpr ⟨h.gt, this⟩
  · rcases Nat.le_total g ((r2 + 1) ^ E) with z | z
    · rw [Nat.min_eq_left z]; exact h.gp
    · rw [Nat.min_eq_right z]; exact ⟨r2 + 1, E, E2, rfl⟩
  · by_cases z : k = E
    · subst z
      refine Nat.le_trans (Nat.min_le_right _ _) (Nat.pow_le_pow_left ?_ k)
      refine Nat.le_of_not_lt fun w => ?_
      have := Nat.pow_le_pow_left (show c ≤ r2 by omega) k
      have := h2.1
      omega
    · exact Nat.le_trans (Nat.min_le_left _ _) (h.hi c k k2 (by omega) hc)
  · rcases h.top with ⟨w, _⟩ | ⟨n1, w⟩
    · omega
    · have := Nat.min_le_left g ((r2 + 1) ^ E)
      exact .inr ⟨n1, by omega⟩
/-- for small numbers, by the list of all powers to 27 -/
theorem next_list {n v : Nat} (hv : v ∈ [1, 4, 8, 9, 16, 25, 27]) (gt : n < v) (h : ∀ x ∈ [1, 4, 8, 9, 16, 25, 27], n < x → v ≤ x) : NextP n v := by
  obtain ⟨_, h2, h3⟩ := (near27 v).mp hv
  refine ⟨gt, h3, fun x hx hp => ?_⟩
  by_cases z : x ≤ 27
  · exact h x ((near27 x).mpr ⟨by omega, z, hp⟩) hx
  · omega
theorem last_list {n v : Nat} (hv : v ∈ [1, 4, 8, 9, 16, 25, 27]) (lt : v < n) (n27 : n ≤ 28) (h : ∀ x ∈ [1, 4, 8, 9, 16, 25, 27], x < n → x ≤ v) : LastP n (some v) := by
  obtain ⟨h1, h2, h3⟩ := (near27 v).mp hv
  exact ⟨lt, h1, h3, fun x hx x1 hp => h x ((near27 x).mpr ⟨x1, by omega, hp⟩) hx⟩
/-- by a list of all powers -/
theorem near_last {zs : List Nat} {M n : Nat} (hu : zs.Pairwise (· < ·)) (hz : ∀ x, x ∈ zs ↔ 1 ≤ x ∧ x ≤ M ∧ IsPow x) (hn : n ≤ M + 1) : LastP n (zs.filter fun x => decide (x < n)).getLast? := by
  cases e : (zs.filter fun x => decide (x < n)).getLast? with
  | none =>
    have h1 := List.getLast?_eq_none_iff.mp e
    show n ≤ 1
    refine Nat.le_of_not_lt fun z => ?_
    have : 1 ∈ zs.filter fun x => decide (x < n) := List.mem_filter.mpr ⟨(hz 1).mpr ⟨Nat.le_refl 1, by omega, isPow1⟩, decide_eq_true z⟩
    rw [h1] at this
    cases this
  | some v =>
    obtain ⟨ys, h1⟩ := List.getLast?_eq_some_iff.mp e
    have hv : v ∈ zs.filter fun x => decide (x < n) := by rw [h1]; simp
    obtain ⟨hv1, hv2⟩ := List.mem_filter.mp hv
    obtain ⟨v1, _, vp⟩ := (hz v).mp hv1
    refine ⟨of_decide_eq_true hv2, v1, vp, fun x hx x1 xp => ?_⟩
    have hxm : x ∈ zs.filter fun x => decide (x < n) := List.mem_filter.mpr ⟨(hz x).mpr ⟨x1, by omega, xp⟩, decide_eq_true hx⟩
    have hp : (ys ++ [v]).Pairwise (· < ·) := by rw [← h1]; exact hu.filter _
    rw [h1] at hxm
    rcases List.mem_append.mp hxm with m | m
    · exact Nat.le_of_lt ((List.pairwise_append.mp hp).2.2 x m v (by simp))
    · have : x = v := by simpa using m
      omega
theorem near_next {zs : List Nat} {M n v : Nat} {r : List Nat} (hu : zs.Pairwise (· < ·)) (hz : ∀ x, x ∈ zs ↔ 1 ≤ x ∧ x ≤ M ∧ IsPow x) (e : (zs.filter fun x => decide (n < x)) = v :: r) : NextP n v := by
  have hv : v ∈ zs.filter fun x => decide (n < x) := by rw [e]; exact List.mem_cons_self ..
  obtain ⟨hv1, hv2⟩ := List.mem_filter.mp hv
  obtain ⟨v1, vM, vp⟩ := (hz v).mp hv1
  refine ⟨of_decide_eq_true hv2, vp, fun x hx xp => ?_⟩
  by_cases z : x ≤ M
  · have hxm : x ∈ zs.filter fun x => decide (n < x) := List.mem_filter.mpr ⟨(hz x).mpr ⟨by omega, z, xp⟩, decide_eq_true hx⟩
    have hp : (v :: r).Pairwise (· < ·) := by rw [← e]; exact hu.filter _
    rw [e] at hxm
    rcases List.mem_cons.mp hxm with m | m
    · omega
    · exact Nat.le_of_lt ((List.pairwise_cons.mp hp).1 x m)
  · omega
/-- soon there is a square -/
theorem soon {n : Nat} (h : n < 500) : ∃ v, n < v ∧ v ≤ n + 45 ∧ IsPow v := by
  have : ∀ n, n < 500 → ∃ m, m < 24 ∧ n < m * m ∧ m * m ≤ n + 45 := by decide +kernel
  obtain ⟨m, _, h1, h2⟩ := this n h
  exact ⟨m * m, h1, h2, m, 2, Nat.le_refl 2, Nat.pow_two m⟩
end Pm
namespace Pw
open PySem PySem.Spec PyProof.Rows L2 SX TL
abbrev vo : Option Nat → V
  | none => .non
  | some n => .int (n : Int)
def dvo : Option Nat → PyData
  | none => .none
  | some n => .int (n : Int)
theorem r_isN1 {H : Hp} {Q : VK} {x : V} (q : Q (.bl (decide (x = .non))) H) : rIsN x .non H Q := ⟨rfl, q⟩
theorem r_notN1 {H : Hp} {Q : VK} {x : V} (q : Q (.bl (!decide (x = .non))) H) : rNotN x .non H Q := ⟨rfl, q⟩
section
variable {K : PySem.W.Frag} {H : Hp} {Q : VK} {p q : Addr} {o o' : Option Nat} {v w : Nat}
theorem dp_vo : ∀ o : Option Nat, Dp K H (vo o) (dvo o)
  | none => .non
  | some n => .int _
theorem dvo_lay (o : Option Nat) : (dvo o).canLay0 = true := by cases o <;> simp [dvo, PyData.canLay0]
theorem dvo_depth (o : Option Nat) : (dvo o).depth = 0 := by cases o <;> simp [dvo, PyData.depth]
theorem dvo_eqv (o o' : Option Nat) : PyData.eqv (dvo o) (dvo o') = decide (o = o') := by
  cases o with
  | none => cases o' <;> simp [dvo, PyData.eqv]
  | some a =>
    cases o' with
    | none => simp [dvo, PyData.eqv]
    | some b =>
      by_cases h : a = b
      · subst h; simp [dvo, PyData.eqv]
      · have : ¬ (a : Int) = (b : Int) := fun z => h (by omega)
        simp [dvo, PyData.eqv, h, this]
theorem bes_shaped (o : Option Nat) (v : Nat) : SeqAt.shaped (.tuple [dvo o, .int (v : Int)]) = true := by
  unfold SeqAt.shaped
  simp only [PyData.canLay0, PyData.canLayAll0, PyData.depth, PyData.depthAll, dvo_lay, dvo_depth, Bool.true_and, decide_eq_true_eq]
  decide
theorem bes_eqv (o o' : Option Nat) (v w : Nat) : PyData.eqv (.tuple [dvo o, .int (v : Int)]) (.tuple [dvo o', .int (w : Int)]) = decide (o = o' ∧ v = w) := by
  simp only [PyData.eqv, PyData.eqvAll, dvo_eqv]
  by_cases h1 : o = o'
  · by_cases h2 : v = w
    · subst h1 h2; simp
    · have : ¬ (v : Int) = (w : Int) := fun z => h2 (by omega)
      simp [h1, h2, this]
  · simp [h1]
theorem r_neBs (hp : H p = some (.tup [vo o, .int (v : Int)])) (hq : H q = some (.tup [vo o', .int (w : Int)])) (k : Q (.bl (!decide (o = o' ∧ v = w))) H) : rNeD K (.ref p) (.ref q) H Q :=
  ⟨.tuple [dvo o, .int (v : Int)], .tuple [dvo o', .int (w : Int)], .tup (SqT.of hp) (.cons (dp_vo o) (.cons (.int _) .nil)), .tup (SqT.of hq) (.cons (dp_vo o') (.cons (.int _) .nil)), bes_shaped o v, bes_shaped o' w, by rw [bes_eqv]; exact k⟩
theorem kB_nb : kitB "NoneType" "bool" = some false := by decide +kernel
theorem r_isiNB (q : Q (.bl false) H) : rIsi K [.non, .ty "bool"] H Q := r_isi (.base .non) kB_nb q
end
def spLast : Sp := fun vs H Q _ => ∃ n : Nat, vs = [.int ((n : Int) - 1)] ∧ n < 2 ^ 190 ∧ ∀ (o : Option Nat) (H' : Hp), Pm.LastP n o → Same H H' → Q (vo o) H'
def spBeside : Sp := fun vs H Q _ => ∃ n : Nat, vs = [.int (n : Int)] ∧ n < 2 ^ 190 ∧ ∀ (o : Option Nat) (v : Nat) (p : Addr) (H' : Hp), Pm.LastP n o → Pm.NextP n v → H p = none → Same H H' → H' p = some (.tup [vo o, .int (v : Int)]) → Q (.ref p) H'
def spNearest : Sp := fun vs H Q _ => ∃ n : Nat, vs = [.int (n : Int)] ∧ n < 2 ^ 190 ∧ ∀ (w : Nat) (H' : Hp), Pm.NearP n w → Same H H' → Q (.int (w : Int)) H'
def spLawBeside : Sp := fun vs H Q _ => ∃ n : Nat, vs = [.int (n : Int)] ∧ n < 2 ^ 133 ∧ ∀ (o : Option Nat) (v : Nat) (p : Addr) (H' : Hp), Pm.LastP n o → Pm.NextP n v → H p = none → Same H H' → H' p = some (.tup [vo o, .int (v : Int)]) → Q (.ref p) H'
def spRight12 : Sp := fun vs H Q _ => ∃ n : Nat, vs = [.int (n : Int)] ∧ n < 2 ^ 133 ∧ ∀ H', Same H H' → Q (.bl true) H'
end Pw

namespace Pw
open PySem PySem.Spec PyProof.Rows L2 SX TL
/-! ### B.__init__(self, ..) in an own error's __init__, B an own class above it that has none of its own -/
section
variable {X : Cx} {o e : Expr} {es : List Expr} {ta : TA} {p1 p2 pos : Pos}
theorem pe_oinit {pl : Sem Bool} {x : Str} {B : Addr} {mc : Value} (hg : Gl X x) (hm : X.mg x = some (.ref B)) (r : ClX.CRead X.K B mc) (at_ : PySem.W.findCls X.K (.ref B) mc "__init__" = some (.val (.builtin "ValueError.__init__")))
    (ha : PA X (e :: es) ta)
    (hc : eval (.Call (.Attribute (.Name x p1) "__init__" p2) (e :: es) [] pos) X.env = (do
      let ov ← eval (.Name x p1) X.env
      standAt p2.atName
      let (f, first) ← holding [ov] (getMethod ov "__init__" pl)
      callWith pos f first (backTo pos (starEach (e :: es) X.env)) (backToKw pos (keywordEach [] X.env))) := by rfl)
    (hdb : (x == ("__debug__" : Str)) = false := by decide)
    (he : starEach (e :: es) X.env = (false, eval e X.env) :: starEach es X.env := by rfl) (hpl : (backTo pos (starEach es X.env)).any (·.1) = false := by rfl) :
    PE X (.Call (.Attribute (.Name x p1) "__init__" p2) (e :: es) [] pos) (tVeI X.K ta) := by
  refine ⟨fun pins s σ H Q I h => ?_⟩
  refine PySem.W.methodCall_KW (ld_glob I hg hm ?_ hdb) hc
  refine PySem.W.method_cls I.kIn r.ga (PySem.W.cls_value I.kIn r.rd at_ (by decide +kernel) ?_)
  show wpAny _ _ (callWith pos (Value.builtin "ValueError.__init__") [] (backTo pos (starEach (e :: es) X.env)) []) _ _ _
  refine PyProof.Rows.callWith_method1 (thn (ha.run pos pins _ σ H _ (I.tok _) h) fun us s1 ⟨vs, H1, I1, r1, a, C, ws, ev, hl, T, ea, q⟩ => ?_) he hpl
  subst ev
  cases r1 with
  | @cons _ u0 _ ur ra rw' =>
    obtain rfl : u0 = Value.ref a := ra
    have hlen : ur.length ≤ sizeLine := by
      rw [← Paired.length rw', sizeLine_eq]
      omega
    exact oinit_ok T I1 ea hlen fun s' J => ⟨.non, H1, J, rfl, q⟩
end
end Pw

namespace Pw
open PySem PySem.Spec PyProof.Rows L2 SX TL
/-! ### an error that is caught and asked behind its suite -/
/-- the tracked word o tells: a is an error of class cls with its names in d -/
def SaysEx (a : Addr) (cls : Value) (d : Option Addr) (o : HO) : Prop :=
  ∃ φ : Heap → Prop, o = .ext φ ∧ ∀ h, φ h → ∃ oe vs, h.get? a = some oe ∧ Zc cls d oe ∧ oe.data = .fields vs
def exK (cls : Value) (d : Option Addr) (a : Addr) : HO := .ext fun h => ∃ oe vs, h.get? a = some oe ∧ Zc cls d oe ∧ oe.data = .fields vs
theorem exK_says {cls : Value} {d : Option Addr} {a : Addr} : SaysEx a cls d (exK cls d a) := ⟨_, rfl, fun _ z => z⟩
theorem exO_says {cls : Value} {a : Addr} : SaysEx a cls none (ExO cls a) := ⟨_, rfl, fun _ ⟨oe, vs, e, z, dd, _⟩ => ⟨oe, vs, e, z, dd⟩⟩
theorem exK_ok {P : Program} {w : World} {H : Hp} {h : Heap} {a : Addr} {cls : Value} {d : Option Addr} {oe : Obj} {vs : Array Value}
    (e : h.get? a = some oe) (z : Zc cls d oe) (dd : oe.data = .fields vs) : ObjOk P w H h a (exK cls d a) :=
  ⟨⟨oe, vs, e, z, dd⟩, ⟨oe, e⟩, fun _ _ ⟨o, v, q, r⟩ k => ⟨o, v, k o q, r⟩⟩
section
variable {X : Cx} {pins : List (Addr × Obj)} {σ : L2.St} {H : Hp} {s : Shared}
/-- an object that stands there, ours but not spoken of, is spoken of from now on -/
theorem inv_mark {a : Addr} {o : HO} (I : Inv X pins σ H s) (n0 : X.s_0.heap.get? a = none) (hn : H a = none) (nL : a ≠ X.env.locals)
    (nC : ∀ x c, X.env.cells.lookup x = some c → c ≠ a) (nP : ∀ p ∈ X.pn ++ pins, p.1 ≠ a) (new : ObjOk X.prog X.w (upd H a o) s.heap a o) : Inv X pins σ (upd H a o) s := by
  have ne0 : ∀ {b ob}, X.s_0.heap.get? b = some ob → b ≠ a := by
    intro b ob e z
    rw [z, n0] at e
    cases e
  have neS : ∀ {b u}, H b = some u → b ≠ a := by
    intro b u e z
    rw [z, hn] at e
    cases e
  have B := I.base
  refine { ok := I.ok, os := I.os, bare := I.bare, base := { keep := B.keep, slot := B.slot, free := ?_, there := B.there, tups := ?_, frzs := ?_, tbls := ?_ }, loc := I.loc, cell := I.cell, free := ?_, freeC := ?_, pin := ?_, hok := ?_, len := I.len }
  · intro b ob e n hx
    rw [upd_ne (ne0 e)]
    exact B.free b ob e n hx
  · intro b xs e
    have q := B.tups b xs e
    rw [upd_ne (neS q)]
    exact q
  · intro b ob u e
    have q := B.frzs b ob u e
    rw [upd_ne (neS q)]
    exact q
  · intro b ps e
    obtain ⟨m, q⟩ := B.tbls b ps e
    exact ⟨m, by rw [upd_ne (neS q)]; exact q⟩
  · rw [upd_ne (Ne.symm nL)]
    exact I.free
  · intro x c e
    rw [upd_ne (nC x c e)]
    exact I.freeC x c e
  · intro p hp
    obtain ⟨e, n, r⟩ := I.pin p hp
    exact ⟨e, by rw [upd_ne (nP p hp)]; exact n, r⟩
  · intro b u e
    by_cases hb : b = a
    · subst hb
      rw [upd_same] at e
      cases e
      exact new
    · rw [upd_ne hb] at e
      refine (I.hok b u e).stay (fun _ _ _ q => q) (fun c q => ?_) (fun c xs q => ?_)
      · rw [upd_ne (neS q)]
        exact q
      · rw [upd_ne (neS q)]
        exact q
end

/-- the ends of the suite of 'except x as n': behind it the error is still spoken of -/
def dKept (i : Nat) (a : Addr) (cls : Value) (d : Option Addr) (D : Ends) : Ends where
  nx := fun σ' H' => D.nx (σ'.set i none) (upd H' a (exK cls d a))
  rt := D.rt
  bk := fun σ' H' => D.bk (σ'.set i none) (upd H' a (exK cls d a))
  ct := fun σ' H' => D.ct (σ'.set i none) (upd H' a (exK cls d a))
/-- what the body wishes of its error, where the clause takes it -/
def wKept (K : PySem.W.Frag) (c : Value) (i : Nat) (ts : Addr → Value → Option Addr → TS) (D : Ends) : WX := fun cls d σ H =>
  PySem.W.exmOne K cls c = some true ∧ ∀ a, H a = none → ts a cls d (dKept i a cls d D) (σ.set i (some (.ref a))) H

section
variable {X : Cx} {x n : Str} {c : Value} {i : Nat} {body suite : List Stmt} {b₀ : Stmt} {np pos pos' : Pos} {tb : WX → TS} {ts : Addr → Value → Option Addr → TS}
/-- where the suite of such a clause ends -/
theorem suite_ends {pins : List (Addr × Obj)} {D : Ends} {a : Addr} {oe : Obj} {vs : Array Value} {cls : Value} {d : Option Addr} {f : Flow} {s : Shared} (ok : X.Ok) (hN : X.N.Nodup) (hi : X.N[i]? = some n) (hln : X.env.kindOf n = some .local)
    (n0 : X.s_0.heap.get? a = none) (nP : ∀ p ∈ X.pn ++ pins, p.1 ≠ a) (hz : Zc cls d oe) (hd : oe.data = .fields vs)
    (h : SP (X.suite a ((a, oe) :: (X.pn ++ pins))) [] (dKept i a cls d D) f s) :
    wpAny (model X.prog X.w) X.A (do bindName X.env n .none; unbindBehindTheSuite X.env n pos') (fun _ s7 => SP X pins D f s7) X.xe s := by
  have mark : ∀ {σ6 : L2.St} {H6 : Hp}, Inv (X.suite a ((a, oe) :: (X.pn ++ pins))) [] σ6 H6 s → Inv X pins σ6 (upd H6 a (exK cls d a)) s := by
    intro σ6 H6 S
    obtain ⟨e, hn, nL, nF, _⟩ := S.pin (a, oe) (List.mem_append_left _ List.mem_cons_self)
    refine inv_mark (S.unsuite ok) n0 hn nL (fun y c' ec z => ?_) nP (exK_ok e hz hd)
    obtain ⟨v, o', e', dc⟩ := S.cell y c' ec
    rw [z] at e'
    have z2 := e'.symm.trans e
    cases z2
    rw [hd] at dc
    cases dc
  cases f with
  | next =>
    obtain ⟨σ6, H6, S, q⟩ := h
    exact gone_ok (mark S) hN hi hln fun s7 J => ⟨_, _, J, q⟩
  | brk =>
    obtain ⟨σ6, H6, S, q⟩ := h
    exact gone_ok (mark S) hN hi hln fun s7 J => ⟨_, _, J, q⟩
  | cont =>
    obtain ⟨σ6, H6, S, q⟩ := h
    exact gone_ok (mark S) hN hi hln fun s7 J => ⟨_, _, J, q⟩
  | ret u =>
    obtain ⟨v, σ6, H6, S, r, q⟩ := h
    exact gone_ok (S.unsuite ok) hN hi hln fun s7 J => ⟨_, _, _, J, r, q⟩
/-- try: body / except x as n: suite, where every error of the body is one of x's: behind it the error is still spoken of -/
theorem ps_try_kept (hs : X.stack = X.env :: X.outer) (hf : X.env.frame = some X.env.locals) (hN : X.N.Nodup) (hi : X.N[i]? = some n) (hln : X.env.kindOf n = some .local) (hc : Names X x c) (hx : X.ex = [])
    (hb : ∀ (W : WX) (pn : List (Addr × Obj)) (xe : Value → Shared → Prop), Takes (X.tr pn xe) W → PassesOwn (model X.prog X.w) X.A X.env xe → PSs (X.tr pn xe) body (tb W))
    (hsu : ∀ (a : Addr) (oe : Obj) (cls : Value) (d : Option Addr) (pn : List (Addr × Obj)), Zc cls d oe → (∃ vs, oe.data = .fields vs) → PSs (X.suite a ((a, oe) :: pn)) (b₀ :: suite) (ts a cls d)) :
    PS X (.Try body [.ExceptHandler (some (.Name x np)) (some n) (b₀ :: suite) pos'] [] [] pos) (fun D σ H => tb (wKept X.K c i ts D) D σ H) := by
  constructor
  intro pins s σ H D I h
  have ok := I.ok
  have takes : ∀ u s', XE (X.tr (X.pn ++ pins) (fun e s₁ => wpAny (model X.prog X.w) X.A (noteFrame e X.env) (fun _ s₂ => wpAny (model X.prog X.w) X.A (setFlight e none) (fun _ s₃ =>
      wpAny (model X.prog X.w) X.A (handleBy e X.env [.ExceptHandler (some (.Name x np)) (some n) (b₀ :: suite) pos']) (SP X pins D) X.xe s₃) X.xe s₂) X.xe s₁)) (wKept X.K c i ts D) u s' →
      wpAny (model X.prog X.w) X.A (noteFrame u X.env) (fun _ s₂ => wpAny (model X.prog X.w) X.A (setFlight u none) (fun _ s₃ =>
      wpAny (model X.prog X.w) X.A (handleBy u X.env [.ExceptHandler (some (.Name x np)) (some n) (b₀ :: suite) pos']) (SP X pins D) X.xe s₃) X.xe s₂) X.xe s' := by
    rintro u s' ⟨a, B, sI, pins', σ', H', cls, d, rfl, J', nb, up, sky, na, os, ag, hyes, hw⟩
    have J : Inv X pins σ' H' sI := J'.ofTry ok
    refine Sky.land Zc.steady (by rw [ok.frames, hs]) hf (show Sky B (X.env :: X.outer) a (Zc cls d) X.env.locals s'.heap by rw [← hs]; exact sky) fun h1 fl1 up1 => ?_
    have J1 : Inv X pins σ' H' { s' with heap := h1 } := J.landed nb fl1.1 (up.trans up1) os ag
    have Ba : B.get? a = none := fl1.2.1
    obtain ⟨o1, v1, e1, z1, d1⟩ := fl1.there
    have nfr : a ∉ frs (X.env :: X.outer) := by
      intro hm
      obtain ⟨_, o', e', hnf⟩ := fl1.2.2.1.mem hm
      rw [e1] at e'
      cases e'
      exact hnf _ d1
    have nL : a ≠ X.env.locals := by
      intro z
      apply nfr
      rw [z]
      exact List.mem_filterMap.mpr ⟨X.env, List.mem_cons_self, hf⟩
    have nF : a ∉ X.fs := by
      intro hm
      obtain ⟨e, he, q⟩ := List.mem_filterMap.mp hm
      exact nfr (List.mem_filterMap.mpr ⟨e, List.mem_cons_of_mem _ he, q⟩)
    have n0 : X.s_0.heap.get? a = none := by
      cases e : X.s_0.heap.get? a with
      | none => rfl
      | some o =>
        obtain ⟨o', q⟩ := J.base.there a o e (by rw [hx]; exact fun z => nomatch z)
        have z := nb a o' q (by show a ∉ frs X.stack; rw [hs]; exact nfr)
        rw [Ba] at z
        cases z
    have nP : ∀ p ∈ X.pn ++ pins, p.1 ≠ a := by
      intro p hp z
      obtain ⟨e, _, ne, nf, _⟩ := J.pin p hp
      have w := nb p.1 p.2 e (fun hm => by
        rcases List.mem_cons.mp (J.stkSub p.1 hm) with q | q
        · exact ne q
        · exact nf q)
      rw [z, Ba] at w
      cases w
    have S1 := J1.suite e1 d1 na nL nF
    refine wpAny_handleBy_cons (codeAny_handlers_test ?_) (fun q => nomatch q)
    have LT : PySem.W.Looks (model X.prog X.w) h1 (typeOf (.ref a)) cls := by
      intro A Q E s k q
      exact wpAny_typeOf_ref (k _ _ e1) (by rw [z1.1]; exact q)
    have named : ∀ {Q E : Value → Shared → Prop}, Q c { s' with heap := h1 } → wpAny (model X.prog X.w) (X.A.mark (some (.ref a))) (eval (.Name x np) X.env) Q E { s' with heap := h1 } := by
      intro Q E q
      rcases hc with ⟨hg, hdbg, hm | ⟨hm, hv, hnn⟩⟩
      · exact ld_glob (X := X.suite a ((a, o1) :: (X.pn ++ pins))) S1 hg hm q hdbg
      · exact ld_blt (X := X.suite a ((a, o1) :: (X.pn ++ pins))) S1 hg hm hv q hnn hdbg
    refine named ((PySem.W.exm_one (M := model X.prog X.w) J1.kIn LT hyes).here ?_)
    refine codeAny_handlers_suite_as (HandSPX.lands_againZ fl1 fun h2 fl2 up2 => ?_)
    have J2 : Inv X pins σ' H' { s' with heap := h2 } := J.landed nb fl2.1 ((up.trans up1).trans up2) os ag
    obtain ⟨o2, v2, e2, z2, d2⟩ := fl2.there
    refine store_ok (X := X.suite a ((a, o2) :: (X.pn ++ pins))) (v := .ref a) (J2.suite e2 d2 na nL nF) hN hi (.inl hln) rfl (fun s3 S3 => ?_) (.inr hln)
    refine wpAny_mono ((hsu a o2 cls d (X.pn ++ pins) z2 ⟨_, d2⟩).run [] s3 _ H' _ S3 (hw a na)) (fun f s4 hsp => ?_) (fun _ _ z => z.elim)
    exact suite_ends ok hN hi hln n0 nP z2 d2 hsp
  refine wpAny_Try_except (wpAny_mono ((hb _ (X.pn ++ pins) _ takes PassesOwn.looking).run [] s σ H D (I.toTry _) h) (fun f s1 hsp => ?_) fun _ _ z => z)
  cases f with
  | next =>
    obtain ⟨σ', H', J, q⟩ := hsp
    exact wpAny_execs_nil ⟨σ', H', J.ofTry ok, q⟩
  | brk =>
    obtain ⟨σ', H', J, q⟩ := hsp
    exact ⟨σ', H', J.ofTry ok, q⟩
  | cont =>
    obtain ⟨σ', H', J, q⟩ := hsp
    exact ⟨σ', H', J.ofTry ok, q⟩
  | ret u =>
    obtain ⟨v, σ', H', J, r, q⟩ := hsp
    exact ⟨v, σ', H', J.ofTry ok, r, q⟩
end
end Pw

namespace PySem.W
open PySem PySem.Spec PySem.Calls PyProof.Rows
section
variable {prog : Program} {w : World} {A : Around} {E : Value → Shared → Prop} {s : Shared} {K : Frag} {x D : Addr} {ox : Obj} {od : Option Obj}
/-- a name that stands in the class as a datum's descriptor is found there, whatever the object's own names are -/
theorem findObj_desc {C : Addr} {name : Str} {a g : Value} (h1 : (clsIn K C).isSome = true) (h2 : findIn K (.ref C) name = some (some a)) (h3 : specialIn K a "__get__" = some (some g)) (h4 : takesIn K a = some true) :
    findObj K C od name = some (.bind g a) := by
  cases h : clsIn K C with
  | none => rw [h] at h1; cases h1
  | some cd =>
    unfold findObj
    simp only [h, h2, h3, h4, Option.bind_some]
end
end PySem.W
namespace Pw
open PySem PySem.Spec PySem.Calls PyProof.Rows L2 SX TL
open PySem.W (Frag InstAt Looks findObj_desc)
section
variable {prog : Program} {w : World} {A : Around} {E : Value → Shared → Prop} {s : Shared} {K : Frag} {x D : Addr} {ox : Obj} {od : Option Obj}
/-- __class__ of an own error, raised or not, with names of its own or without -/
theorem exc_class {Q : Option Value → Shared → Prop} (C : ExcC K D) (hK : K.In s.heap) (I : InstAt s.heap x ox D od) (h : Q (some (.ref D)) { s with toks := s.toks + 1 }) :
    wpAny (model prog w) A (getAttr? (.ref x) "__class__") Q E s := by
  obtain ⟨cd, hcd, _⟩ := PySem.W.any_some C.hd
  have hf := findObj_desc (od := od) (name := "__class__") (by rw [hcd]; rfl) C.ha C.hn C.ht
  have one := PySem.W.looks_findIn (M := model prog w) hK C.hg
  have two := PySem.W.looks_findIn (M := model prog w) hK C.hk
  have three := PySem.W.looks_find (M := model prog w) hK I hf
  have ty := I.type (M := model prog w)
  have sub : Looks (model prog w) s.heap (isInstance (.ref x) (.type "BaseException")) true := ty.andThen (PySem.W.looks_subIn hK C.hs)
  obtain ⟨hp, g, d, t, os⟩ := s
  have other : (onTheHeap (Value.ref D) && Value.builtin "BaseException.__getattribute__" == Value.builtin "object.__getattribute__") = false := by rw [show (Value.builtin "BaseException.__getattribute__" == Value.builtin "object.__getattribute__") = false from by decide +kernel, Bool.and_false]
  unfold getAttr? getAttrBy? getAttrBy
  apply wpAny_bind; apply wpAny_mkText; apply wpAny_bind; apply wpAny_attempt; apply wpAny_holding; apply wpAny_bind
  apply ty.at; apply wpAny_bind; apply one.at
  show wpAny _ _ (if (onTheHeap (Value.ref D) && Value.builtin "BaseException.__getattribute__" == Value.builtin "object.__getattribute__") = true then _ else _) _ _ _
  rw [other, if_neg (by decide)]
  unfold getAttrByItsOwn hookBefore
  apply wpAny_bind
  rw [if_pos (show onTheHeap (Value.ref D) = true by rfl)]
  apply two.at; apply wpAny_bind; apply wpAny_attempt; apply wpAny_holding
  unfold callGetattribute
  rw [show (false && onTheHeap (Value.builtin "BaseException.__getattribute__")) = false by rfl, if_neg (by decide)]
  unfold boundAndCalled
  rw [PySem.F.excAttr_ValueError.ga.bind (.ref x)]
  apply wpAny_bind; apply wpAny_pure
  show wpAny _ _ (call (.builtin "BaseException.__getattribute__") [.ref x, .str "__class__" t]) _ _ _
  apply wpAny_call
  refine codeAny_call_builtin PySem.F.excAttr_ValueError.ga.plain PySem.F.entry_bexc_ga ?_
  refine @PySem.W.check_slot (model prog w) _ _ ⟨hp, g, d, t + 1, os⟩ "BaseException.__getattribute__" "BaseException" "__getattribute__" (.ref x) [.str "__class__" t] [] _ (by decide +kernel) (by decide +kernel) sub
    (PySem.F.args_bexc_ga (.ref x) (.str "__class__" t)) ?_
  unfold Builtin.«object.__getattribute__»
  apply wpAny_bind
  refine wpAny_of_eq (a := ((Value.ref x : Value), [Value.str "__class__" t])) (by first | rfl | (simp only [slotArgs]; rfl)) ?_
  apply wpAny_bind; apply wpAny_pure; apply wpAny_bind
  apply ty.at; apply wpAny_bind; apply three.at
  show wpAny _ _ (holding [Value.builtin "object.__class__"] (call (.builtin "getset_descriptor.__get__") [.builtin "object.__class__", .ref x, .ref D]) >>= ret) _ _ _
  apply wpAny_bind; apply wpAny_holding; apply wpAny_call
  refine PySem.W.class_get (s := ⟨hp, g, d, t + 1, os⟩) (ox := ox) (od := od) hK I C.hm ?_
  apply wpAny_pure
  show wpAny _ _ (handedOut (.ref D)) _ _ _
  rw [PySem.W.handedOut_of (v := .ref D) rfl]
  first
    | exact wpAny_pure h
    | exact wpAny_pure (wpAny_pure h)
    | exact wpAny_pure (wpAny_bind (wpAny_pure (wpAny_pure h)))
/-- what isinstance asks of an own error -/
theorem exc_kit (C : ExcC K D) : PySem.W.KitX K (.ref x) (.ref D) (fun h => InstAt h x ox D od) where
  ty := fun _ _ _ I => I.type
  it := by
    intro M h hK _ A Q E s k q
    obtain ⟨cd, hcd, _⟩ := PySem.W.any_some C.hd
    unfold PySem.W.clsIn at hcd
    split at hcd
    · rename_i e
      unfold isType loadHead
      apply wpAny_bind
      exact wpAny_loadPart (k _ _ (hK _ _ e)) (wpAny_pure q)
    · cases hcd
  ne := by
    intro h tp dd its n sl hK htp
    obtain ⟨cd, hcd, _⟩ := PySem.W.any_some C.hd
    by_cases e : D = tp
    · subst e
      unfold PySem.W.clsIn at hcd
      split at hcd
      · rename_i e
        have z := (hK _ _ e).symm.trans htp
        cases z
      · cases hcd
    · refine Bool.eq_false_iff.mpr fun q => e (Value.ref.inj (beq_iff_eq.mp q))
  ca := fun hK I k => exc_class C hK I k
end
/-- the names of an own error: none, or a dict that is spoken of -/
def HasD (H : Hp) (d : Option Addr) : Prop := d = none ∨ ∃ dd fs, d = some dd ∧ H dd = some (.xd fs)
theorem HasD.none {H : Hp} : HasD H none := .inl rfl
theorem HasD.xd {H : Hp} {dd : Addr} {fs : List (Str × V)} (h : H dd = some (.xd fs)) : HasD H (some dd) := .inr ⟨dd, fs, rfl, h⟩
/-- x is an own error of class D -/
def AnEx (H : Hp) (x : V) (D : Addr) (d : Option Addr) : Prop := ∃ a o, x = .ref a ∧ H a = some o ∧ SaysEx a (.ref D) d o ∧ HasD H d
theorem AnEx.inst {X : Cx} {pins : List (Addr × Obj)} {σ : L2.St} {H : Hp} {s : Shared} {x : V} {u : Value} {D : Addr} {d : Option Addr} (I : Inv X pins σ H s) (e : AnEx H x D d) (r : RelV x u) :
    ∃ a oe od, x = .ref a ∧ u = .ref a ∧ InstAt s.heap a oe D od := by
  obtain ⟨a, o, rfl, ha, ⟨φ, rfl, hφ⟩, hd⟩ := e
  obtain rfl : u = Value.ref a := r
  obtain ⟨z, _, _⟩ := (show ObjOk X.prog X.w H s.heap a (.ext φ) from I.hok a _ ha)
  obtain ⟨oe, vs, e1, z1, d1⟩ := hφ _ z
  have no : PySem.W.notCls oe = true := by
    unfold PySem.W.notCls
    rw [d1]
  rcases hd with rfl | ⟨dd, fs, rfl, hdd⟩
  · exact ⟨a, oe, none, rfl, rfl, e1, z1.1, no, by rw [z1.2]; trivial⟩
  · obtain ⟨mA, hns, _⟩ := (show ObjOk X.prog X.w H s.heap dd (.xd fs) from I.hok dd _ hdd)
    obtain ⟨od, ho, _⟩ := lookIn_ns hns
    exact ⟨a, oe, some od, rfl, rfl, e1, z1.1, no, by rw [z1.2]; exact ho⟩
/-- isinstance(x, c), x an own error -/
def rIsK (K : Frag) : List V → Hp → VK → Prop := fun xs H Q => ∃ (x c : V) (u : Value) (D : Addr) (d : Option Addr) (b : Bool), xs = [x, c] ∧ ClsV c u ∧ AnEx H x D d ∧ ExcC K D ∧ PySem.W.kitOne K (.ref D) u = some b ∧ Q (.bl b) H
theorem call_isK {X : Cx} : CallR X (.builtin "isinstance") (rIsK X.K) := by
  intro pins s σ H xs us Q I r h
  obtain ⟨x, c, u, D, d, b, rfl, k, e, C, hb, q⟩ := h
  obtain ⟨u1, u2, rfl, r1, r2⟩ := vals2 r
  obtain rfl := k.eq r2
  obtain ⟨a, oe, od, rfl, rfl, J⟩ := e.inst I r1
  exact PySem.W.kia_one (exc_kit C) I.kIn J hb (fun z => nomatch z) fun tk => ⟨.bl b, H, I.kept (t' := tk) fun _ _ z => z, rfl, q⟩
/-- isinstance of any such or of a plain value -/
def rIsX (K : Frag) : List V → Hp → VK → Prop := fun xs H Q => rIsi K xs H Q ∨ rIsK K xs H Q
theorem call_isX {X : Cx} : CallR X (.builtin "isinstance") (rIsX X.K) := by
  intro pins s σ H xs us Q I r h
  rcases h with h | h
  · exact call_isi pins s σ H xs us Q I r h
  · exact call_isK pins s σ H xs us Q I r h
/-- e.f, e an own error behind its suite -/
def tErF (K : Frag) (f : Str) (te : TE) : TE := fun σ H Q => te σ H fun x H1 => ∃ (D dd : Addr) (fs : List (Str × V)) (v : V), AnEx H1 x D (some dd) ∧ H1 dd = some (.xd fs) ∧ fs.lookup f = some v ∧ XfC K D ∧ PySem.W.findIn K (.ref D) f = some none ∧ Q v H1
theorem pe_erf {X : Cx} {e : Expr} {te : TE} {pos : Pos} {n : Str} (he : PE X e te) (hb : attributeBase e n X.env (eval e X.env) = eval e X.env := by rfl) : PE X (.Attribute e n pos) (tErF X.K n te) := by
  constructor
  intro pins s σ H Q I h
  refine attr_of hb (thn (he.run pins s σ H _ I h) fun u s1 hh => ?_)
  obtain ⟨x, H1, J, rx, D, dd, fs, v, ⟨a, o, rfl, ha, ⟨φ, rfl, hφ⟩, _⟩, hdd, l, T, hno, q⟩ := hh
  obtain rfl : u = Value.ref a := rx
  obtain ⟨z, _, _⟩ := (show ObjOk X.prog X.w H1 s1.heap a (.ext φ) from J.hok a _ ha)
  obtain ⟨oe, vs, e1, z1, d1⟩ := hφ _ z
  obtain ⟨mA, hns, hr⟩ := (show ObjOk X.prog X.w H1 s1.heap dd (.xd fs) from J.hok dd _ hdd)
  obtain ⟨od, ho, hl⟩ := lookIn_ns hns
  obtain ⟨w, hw, rw_⟩ := RelO.some_of (v := v) (o := mA n) (by rw [← l]; exact hr n)
  have no : PySem.W.notCls oe = true := by
    unfold PySem.W.notCls
    rw [d1]
  have inst : InstAt s1.heap a oe D (some od) := ⟨e1, z1.1, no, by rw [z1.2]; exact ho⟩
  exact HandSPX.exc_get J.kIn inst T.ga T.gg T.exC (PySem.W.findObj_own T.hdC hno rfl (by rw [hl, hw])) (handed_of rw_) ⟨v, H1, J.tok _, rw_, q⟩
end Pw
namespace Pw
open PySem PySem.Spec PySem.Calls PyProof.Rows L2 SX TL
/-- what makes an error, as a value: a new error, not raised -/
def tErV (t : L2.St → Hp → XK → Prop) : TE := fun σ H Q => t σ H fun cls d H1 => ∀ a, H1 a = none → Q (.ref a) (upd H1 a (exK cls d a))
theorem pe_erv {X : Cx} {e : Expr} {t : L2.St → Hp → XK → Prop} (he : PMk X e t) : PE X e (tErV t) := by
  constructor
  intro pins s σ H Q I h
  refine wpAny_mono (he pins s σ H _ I h) (fun u s' hu => ?_) fun _ _ z => z
  obtain ⟨a, oe, vs, sI, H1, cls, d, rfl, J, k, hn, ha, hz, hd, _, na, ho, hg, _, q⟩ := hu
  have M := J.laidN (h' := s'.heap) (t' := s'.toks) (a := a) (o := exK cls d a) k hn na (exK_ok ha hz hd)
  refine ⟨.ref a, _, ?_, rfl, q a na⟩
  exact { ok := M.ok, os := ho.trans J.os, bare := hg, base := M.base, loc := M.loc, cell := M.cell, free := M.free, freeC := M.freeC, pin := M.pin, hok := M.hok, len := M.len }
end Pw

namespace Pw
open PySem PySem.Spec PyProof.Rows L2 SX TL
/-- an own error's __init__ that hands a text on and keeps one number under the name f -/
def spErr (K : PySem.W.Frag) (f : Str) : Sp := fun vs H Q _ => ∃ (a C : Addr) (i : Int), vs = [.ref a, .int i] ∧ OexC K C ∧ PySem.W.findIn K (.ref C) f = some none ∧ H a = some (exo a C none) ∧ i.natAbs.log2 < 1920 ∧
  ∀ dx, H dx = none → dx ≠ a → Q .non (upd (upd H dx (exd dx [(f, .int i)])) a (exo a C (some dx)))
def tErrInit (K : PySem.W.Frag) (said f : Str) : TS :=
  tSeq (tDrop (tVeI K (tCons (tVar 0) (tCons (fun σ H Q => tJs [tC (.str said), tFmt (tVar 1)] Str.empty σ H fun out H1 => Q (.str out) H1) tNil)))) (tOst K f (tVar 0) (tVar 1))
theorem errInit {K : PySem.W.Frag} {said f : Str} {a C : Addr} {i : Int} {H : Hp} {Q : VK} (T : OexC K C) (hno : PySem.W.findIn K (.ref C) f = some none) (ha : H a = some (exo a C none)) (hi : i.natAbs.log2 < 1920) (hs : said.length + 2000 ≤ sizeLine)
    (q : ∀ dx, H dx = none → dx ≠ a → Q .non (upd (upd H dx (exd dx [(f, .int i)])) a (exo a C (some dx)))) :
    tErrInit K said f { nx := fun _ H' => Q .non H', rt := Q } [some (.ref a), some (.int i)] H := by
  have hl := int_text_length_le (k := 1920) (by decide) hi
  have hz : (Str.ofString (toString i)).length ≤ 1921 := by
    rw [PySem.ofString_length]
    exact hl
  have hemp : (Str.empty ++ said : Str) = said := Str.empty_append said
  have l1 : (Str.empty ++ said : Str).length ≤ sizeLine := by rw [hemp]; omega
  have l2 : (Str.empty ++ said ++ Str.ofString (toString i) : Str).length ≤ sizeLine := by
    rw [hemp, Str.length_append]
    omega
  refine ⟨V.ref a, rfl, said, rfl, l1, ?_⟩
  show tFmt (tVar 1) _ H _
  refine ⟨V.int i, rfl, Or.inr ⟨i, rfl, hi, Str.ofString (toString i), rfl, l2, ?_⟩⟩
  refine ⟨a, C, _, rfl, (show (1 : Nat) ≤ 1000 by decide), T, ha, ?_⟩
  exact ⟨V.int i, rfl, V.ref a, rfl, a, C, rfl, T, hno, Or.inl ⟨ha, q⟩⟩
end Pw

namespace Pw
open PySem PySem.Spec PyProof.Rows L2 SX TL
/-! ### defs that raise -/
structure DefX (P : Program) (w : World) (K : PySem.W.Frag) (mg : Str → Option Value) (base : Heap) (k : Nat) (x : Str) (ps : List Str) (sp : Sp) : Prop where
  ex : ∃ (f : Addr) (fd : FuncData), FnOk P w K mg base (L2.CX P w) k f fd ps sp ∧ mg x = some (.ref f) ∧ PySem.W.keepIn K (.ref f) = true ∧ Binds K fd ps []
section
variable {P : Program} {w : World} {K : PySem.W.Frag} {mg : Str → Option Value} {base : Heap}
theorem Pl.okX {x : Str} {st : Stmt} {N ps : List Str} {k : Nat} {sp : Sp} (F : Pl K mg x st ps) (S : FnScope N ps (defScope st)) (len : ∀ vs H Q E, sp vs H Q E → vs.length = ps.length)
    (body : ∀ (f : Addr) (cdv : Value) (A : Around) (outer : List Env) (s : Shared) (H : Hp) (vs : List V) (Q : VK) (E : XK), Room k (A.deeper (envOfC x (defScope st) s.heap.objs.size f cdv)) → sp vs H Q E →
      ∃ t, PSs (cxOf (L2.CX P w) P w K mg base N x (defScope st) f cdv A outer s H E) (defBody st) t ∧ t { nx := fun _ H' => Q .non H', rt := Q } (start N vs) H) : DefX P w K mg base (k + 1) x ps sp := by
  obtain ⟨f, fd, G, m, b⟩ := F.ex
  exact ⟨f, fd, G.okX S len (body f), m, G.kp, b⟩
end
section
variable {X : Cx} {k j : Nat} {x : Str} {ps : List Str} {sp : Sp} {W : WX}
theorem pe_dfS {e : Expr} {es : List Expr} {t : TA} {p pos : Pos} (D : DefX X.prog X.w X.K X.mg X.base k x ps sp) (hr : Room j X.A) (tk : Takes X W) (hg : Gl X x) (ha : PA X (e :: es) t) (hk : k ≤ j := by decide) (hdb : (x == ("__debug__" : Str)) = false := by decide)
    (he : starEach (e :: es) X.env = (false, eval e X.env) :: starEach es X.env := by rfl) (hpl : (backTo pos (starEach es X.env)).any (·.1) = false := by rfl) : PE X (.Call (.Name x p) (e :: es) [] pos) (tCallS sp (WE W) t) := by
  obtain ⟨f, fd, F, m, kp, b⟩ := D.ex
  exact pe_callS F (hr.mono hk) hg m kp b (fun σ => passAt tk σ) ha hdb he hpl
theorem ps_nox {st : Stmt} {t : TS} (h : PS X.nox st t) : PS X st t := by
  constructor
  intro pins s σ H D I q
  exact wpAny_mono (h.run pins s σ H D (I.wish _) q) (fun _ _ z => z.unwish) fun _ _ z => z.elim
end
/-- the facts of an own error's class with a number under f -/
structure ErrC (K : PySem.W.Frag) (mg : Str → Option Value) (nm : Str) (C : Addr) (f : Str) : Prop where
  gC : mg nm = some (.ref C)
  o : OexC K C
  no : PySem.W.findIn K (.ref C) f = some none
  x : XfC K C
  i : ExcC K C
/-- .. with its __init__ -/
def ErrI (P : Program) (w : World) (K : PySem.W.Frag) (mg : Str → Option Value) (base : Heap) (nm : Str) (C : Addr) (f : Str) : Prop := ErrC K mg nm C f ∧ ∃ (fI : Addr) (fd : FuncData),
  PySem.W.findIn K (.ref C) "__init__" = some (some (.ref fI)) ∧ PySem.W.typeIn K (.ref fI) = some (.type "function") ∧ FnOk P w K mg base CX0 1 fI fd ["self", f] (spErr K f) ∧ Binds K fd ["self", f] []
/-- making it -/
theorem pmk_err {X : Cx} {nm f : Str} {C : Addr} {e : Expr} {ta : TA} {p pos : Pos} {j : Nat} (T : ErrI X.prog X.w X.K X.mg X.base nm C f) (hr : Room j X.A) (hg : Gl X nm) (ha : PA X [e] ta) (hj : 2 ≤ j := by decide) (hdb : (nm == ("__debug__" : Str)) = false := by decide)
    (he : starEach [e] X.env = (false, eval e X.env) :: starEach [] X.env := by rfl) : PMk X (.Call (.Name nm p) [e] [] pos) (tMkO C (spErr X.K f) [] ta) := by
  obtain ⟨c, fI, fd, iC, tI, F, b⟩ := T
  exact pmk_oex c.o iC tI F (hr.mono hj) b .nil pass0 hg c.gC ha hdb he
theorem mkErr_in {K : PySem.W.Frag} {f : Str} {C : Addr} {i : Int} {H1 : Hp} {Q : XK} (T : OexC K C) (hno : PySem.W.findIn K (.ref C) f = some none) (hi : i.natAbs.log2 < 1920)
    (q : ∀ d, H1 d = none → Q (.ref C) (some d) (upd H1 d (.xd [(f, .int i)]))) :
    ([V.int i] : List V).length ≤ 1000 ∧ ∀ a, H1 a = none → spErr K f (V.ref a :: ([V.int i] ++ [])) (upd H1 a (exo a C none))
      (fun v H2 => v = .non ∧ ∃ (d : Addr) (fs : List (Str × V)), H2 a = some (exo a C (some d)) ∧ H2 d = some (exd d fs) ∧ H1 d = none ∧ Q (.ref C) (some d) (upd (del H2 a) d (.xd fs))) (fun _ _ _ => False) := by
  refine ⟨(by show 1 ≤ 1000; decide), fun a ha => ⟨a, C, i, rfl, T, hno, upd_same, hi, fun dx hdx hne => ?_⟩⟩
  rw [upd_ne hne] at hdx
  refine ⟨rfl, dx, [(f, .int i)], upd_same, by rw [upd_ne hne, upd_same], hdx, ?_⟩
  have e : upd (del (upd (upd (upd H1 a (exo a C none)) dx (exd dx [(f, .int i)])) a (exo a C (some dx))) a) dx (.xd [(f, .int i)]) = upd H1 dx (.xd [(f, .int i)]) := by
    funext b
    by_cases h1 : b = dx
    · rw [h1, upd_same, upd_same]
    · rw [upd_ne h1, upd_ne h1]
      by_cases h2 : b = a
      · rw [h2, del_same, ha]
      · rw [del_ne h2, upd_ne h2, upd_ne h1, upd_ne h2]
  rw [e]
  exact q dx hdx

/-! ### what a text writes -/
/-- no figures from s on, or a nought ahead of one -/
def bad (l : List Nat) (s : Nat) : Bool := decide (runEnd l s = s) || (decide (l[s]? = some 48) && decide (s + 1 < runEnd l s))
theorem bad_iff {l : List Nat} {s : Nat} : bad l s = true ↔ runEnd l s = s ∨ (l[s]? = some 48 ∧ s + 1 < runEnd l s) := by simp [bad]
/-- the number, or the place of the first sign that cannot stand there -/
def dueOf (l : List Nat) : Nat ⊕ Nat :=
  if bad l 0 then .inr 0
  else if runEnd l 0 = l.length then .inl (NumText.digitsVal l)
  else if l[runEnd l 0]? ≠ some 94 then .inr (runEnd l 0)
  else if bad l (runEnd l 0 + 1) then .inr (runEnd l 0 + 1)
  else if runEnd l (runEnd l 0 + 1) < l.length then .inr (runEnd l (runEnd l 0 + 1))
  else if 200 < NumText.digitsVal (l.drop (runEnd l 0 + 1)) then .inr (runEnd l 0 + 1)
  else .inl (NumText.digitsVal (l.take (runEnd l 0)) ^ NumText.digitsVal (l.drop (runEnd l 0 + 1)))
def spFigX (C : Addr) : Sp := fun vs H Q E => ∃ (l : List Nat) (s : Nat), vs = [.str (S l), .int (s : Int)] ∧ l.length ≤ 1000 ∧ s ≤ l.length ∧
  (bad l s = true → ∀ d, H d = none → E (.ref C) (some d) (upd H d (.xd [("place", .int (s : Int))]))) ∧ (bad l s = false → Q (.int (runEnd l s : Nat)) H)
def spReadX (C : Addr) : Sp := fun vs H Q E => ∃ (l : List Nat), vs = [.str (S l)] ∧ l.length ≤ 1000 ∧
  (∀ k, dueOf l = .inr k → ∀ d, H d = none → E (.ref C) (some d) (upd H d (.xd [("place", .int (k : Int))]))) ∧ (∀ n, dueOf l = .inl n → Q (.int (n : Int)) H)
theorem log_small {n : Nat} (h : n ≤ 1001) : ((n : Int)).natAbs.log2 < 1920 := by
  rw [Int.natAbs_natCast]
  have := Nat.log2_le_self n
  omega
theorem bad_no {l : List Nat} {s : Nat} (h1 : runEnd l s ≠ s) (h2 : ¬ (l[s]? = some 48 ∧ s + 1 < runEnd l s)) : bad l s = false := by
  rw [← Bool.not_eq_true, bad_iff]
  rintro (h | h)
  · exact h1 h
  · exact h2 h
theorem digs_drop {l : List Nat} {s : Nat} (h : runEnd l s = l.length) : NumText.AllDigits (l.drop s) := by
  intro c hc
  obtain ⟨i, hi, e⟩ := List.mem_iff_getElem.mp hc
  rw [List.length_drop] at hi
  obtain ⟨c', e1, e2⟩ := run_in (l := l) (s := s) (k := s + i) (by omega) (by omega)
  rw [List.getElem_drop] at e
  rw [List.getElem?_eq_getElem (by omega), e] at e1
  cases e1
  exact dgt_iff.mp e2
theorem digs_take {l : List Nat} : NumText.AllDigits (l.take (runEnd l 0)) := by
  have hle := runEnd_le (l := l) (s := 0) (Nat.zero_le _)
  intro c hc
  obtain ⟨i, hi, e⟩ := List.mem_iff_getElem.mp hc
  rw [List.length_take] at hi
  obtain ⟨c', e1, e2⟩ := run_in (l := l) (s := 0) (k := i) (Nat.zero_le _) (by omega)
  rw [List.getElem_take] at e
  rw [List.getElem?_eq_getElem (by omega), e] at e1
  cases e1
  exact dgt_iff.mp e2
/-- figures, as a bound of two's powers -/
theorem digs_bits {l : List Nat} (h : NumText.AllDigits l) : NumText.digitsVal l < 2 ^ (4 * l.length) := by
  refine Nat.lt_of_lt_of_le (digitsVal_lt h) ?_
  rw [Nat.pow_mul]
  exact Nat.pow_le_pow_left (by decide) _
theorem r_callS {sp : Sp} {E : L2.St → XK} {tr : TA} {σ : L2.St} {H : Hp} {Q : VK} (h : tr σ H fun vs H1 => sp vs H1 Q (E σ)) : tCallS sp E tr σ H Q := h
end Pw

namespace Pw
open PySem PySem.Spec PyProof.Rows L2 SX TL
/-! ### how often True stands in a list of truths -/
def isT (v : Value) : Bool := match v with
  | .bool b => b
  | _ => false
theorem bools_vals : ∀ {bs : List Bool} {us : List Value}, Vals (bs.map V.bl) us → us = bs.map Value.bool
  | [], us, r => by
    cases r
    rfl
  | b :: bs, us, r => by
    cases r with
    | cons r1 r2 =>
      rw [bools_vals r2, List.map_cons]
      exact congrArg (· :: _) r1
theorem isT_gives {A : Around} {s : Shared} {b : Bool} : SeqAt.EqAt A.in1 s (.bool b) (.bool true) (isT (.bool b)) := by
  have h := PySem.W.keq_flat (A := A.in1) (s := s) (v := .bool b) (y := .bool true) (d := .bool b) (e := .bool true) (fun _ => .bool b) (fun _ => .bool true)
  have e : PyData.eqv (.bool b) (.bool true) = isT (.bool b) := by cases b <;> simp [PyData.eqv, isT]
  rw [e] at h
  exact h
theorem isT_count (bs : List Bool) : (bs.map Value.bool).countP isT = bs.count true := by
  induction bs with
  | nil => rfl
  | cons b r ih =>
    rw [List.map_cons, List.countP_cons, List.count_cons, ih]
    cases b <;> rfl
def rCntT (K : PySem.W.Frag) : V → List V → Hp → VK → Prop := fun x xs H Q => ∃ (p : Addr) (bs : List Bool), x = .ref p ∧ xs = [.bl true] ∧ SqL K H p (bs.map V.bl) ∧ Q (.int (bs.count true : Nat)) H
theorem mt_lcountT {X : Cx} : MtR X "list.count" (rCntT X.K) := by
  intro pins s σ H x xs v us Q I rx rxs h
  obtain ⟨p, bs, rfl, rfl, hs, q⟩ := h
  obtain rfl : v = Value.ref p := rx
  obtain ⟨u, rfl, ru⟩ := rxs.one
  obtain rfl : u = Value.bool true := ru
  obtain ⟨its, rv, ⟨⟨cls, dd, data, sl⟩, n, ho, hc, hdn, hd⟩, hlen⟩ := I.list hs
  dsimp only at hc hd
  subst hc hd
  have e := bools_vals rv
  refine call_meets PySem.F.slot_list_count ⟨_, ho, rfl⟩ PySem.F.entry_list_count (PySem.F.args_list_count_2 _ _) (SeqAt.list_countAt p its.toArray n dd sl (.bool true) isT) ⟨ho, fun y hy => ?_, ?_⟩
  · have hm : y ∈ its := by simpa using hy
    rw [e] at hm
    obtain ⟨b, _, rfl⟩ := List.mem_map.mp hm
    exact isT_gives
  · have ec : its.toArray.toList.countP isT = bs.count true := by
      show its.countP isT = _
      rw [e, isT_count]
    refine ⟨.int (bs.count true : Nat), H, I.tok _, ⟨s.toks, ?_⟩, q⟩
    rw [ec]
theorem pe_globC {X : Cx} {x : Str} {C : Addr} {pos : Pos} (hg : Gl X x) (hm : X.mg x = some (.ref C)) (hd : (x == ("__debug__" : Str)) = false := by decide) : PE X (.Name x pos) (tC (.ref C)) := pe_glob hg hm rfl hd
theorem AnEx.same {H H' : Hp} {x : V} {D : Addr} {d : Option Addr} (e : AnEx H x D d) (h : Same H H') : AnEx H' x D d := by
  obtain ⟨a, o, rfl, ha, hs, hd⟩ := e
  refine ⟨a, o, rfl, h _ _ ha, hs, ?_⟩
  rcases hd with rfl | ⟨dd, fs, rfl, hdd⟩
  · exact .none
  · exact .xd (h _ _ hdd)
section
variable {K : PySem.W.Frag} {H : Hp} {x c v : V} {D : Addr} {d : Option Addr} {u : Value} {b : Bool} {Q : VK}
theorem r_isX (e : AnEx H x D d) (C : ExcC K D) (k : ClsV c u) (hb : PySem.W.kitOne K (.ref D) u = some b) (q : Q (.bl b) H) : rIsX K [x, c] H Q := .inr ⟨x, c, u, D, d, b, rfl, k, e, C, hb, q⟩
theorem r_isXI {i : Int} (q : Q (.bl false) H) : rIsX K [.int i, .ty "bool"] H Q := .inl (r_isiIB q)
theorem r_cntT {p : Addr} {bs : List Bool} (h : SqL K H p (bs.map V.bl)) (q : Q (.int (bs.count true : Nat)) H) : rCntT K (.ref p) [.bl true] H Q := ⟨p, bs, rfl, rfl, h, q⟩
theorem r_erf {te : TE} {σ : L2.St} {f : Str} (h : te σ H fun x H1 => ∃ (D dd : Addr) (fs : List (Str × V)) (v : V), AnEx H1 x D (some dd) ∧ H1 dd = some (.xd fs) ∧ fs.lookup f = some v ∧ XfC K D ∧ PySem.W.findIn K (.ref D) f = some none ∧ Q v H1) : tErF K f te σ H Q := h
end
/-- which of the own errors' classes are among which -/
structure KindF (K : PySem.W.Frag) (CA CF CN CP : Addr) : Prop where
  na : PySem.W.kitOne K (.ref CN) (.ref CA) = some false
  nf : PySem.W.kitOne K (.ref CN) (.ref CF) = some false
  nn : PySem.W.kitOne K (.ref CN) (.ref CN) = some true
  np : PySem.W.kitOne K (.ref CN) (.ref CP) = some true
  nv : PySem.W.kitOne K (.ref CN) (.type "ValueError") = some true
  fa : PySem.W.kitOne K (.ref CF) (.ref CA) = some false
  ff : PySem.W.kitOne K (.ref CF) (.ref CF) = some true
  fn : PySem.W.kitOne K (.ref CF) (.ref CN) = some false
  fp : PySem.W.kitOne K (.ref CF) (.ref CP) = some true
  fv : PySem.W.kitOne K (.ref CF) (.type "ValueError") = some true
/-- which refusal, with the number that it keeps -/
def spKind (CF CN : Addr) : Sp := fun vs H Q _ => ∃ (x : V) (dd : Addr) (i : Int), vs = [x] ∧
  ((AnEx H x CN (some dd) ∧ H dd = some (.xd [("place", .int i)]) ∧ ∀ (p : Addr) (H' : Hp), Same H H' → H' p = some (.tup [.str "number", .int i]) → Q (.ref p) H') ∨
   (AnEx H x CF (some dd) ∧ H dd = some (.xd [("number", .int i)]) ∧ ∀ (p : Addr) (H' : Hp), Same H H' → H' p = some (.tup [.str "factor", .int i]) → Q (.ref p) H'))
end Pw

namespace Pw
open PySem PySem.Spec PyProof.Rows L2 SX TL
def rFind : V → List V → Hp → VK → Prop := fun x xs H Q => ∃ a b, x = .str a ∧ xs = [.str b] ∧ Q (.int (Txt.find a b)) H
theorem mt_findN {X : Cx} : MtR X "str.find" rFind := mt_find
theorem find_fig (c : Nat) : decide (0 ≤ Txt.find "0123456789" (S [c])) = dgt c := by
  have h := PySem.StrLaws.found_one "0123456789" c
  have e : decide (c ∈ (("0123456789" : Str).cps.toList)) = dgt c := by
    have e2 : (("0123456789" : Str).cps.toList) = [48, 49, 50, 51, 52, 53, 54, 55, 56, 57] := by decide +kernel
    rw [e2]
    by_cases hd : dgt c = true
    · rw [hd]
      exact decide_eq_true (mem_figs.mpr hd)
    · rw [Bool.eq_false_iff.mpr hd]
      exact decide_eq_false fun z => hd (mem_figs.mp z)
  rw [e] at h
  unfold Txt.find
  show decide (0 ≤ (match Builtin.Str.occurrences "0123456789" ⟨#[c]⟩ 0 ("0123456789" : Str).length 1 with | i :: _ => (i : Int) | [] => -1)) = dgt c
  cases ho : Builtin.Str.occurrences "0123456789" ⟨#[c]⟩ 0 ("0123456789" : Str).length 1 with
  | nil =>
    rw [ho] at h
    rw [← h]
    rfl
  | cons i r =>
    rw [ho] at h
    rw [← h]
    exact decide_eq_true (Int.natCast_nonneg i)
theorem find_fig2 (c : Nat) : decide (0 ≤ Txt.find (S [48, 49, 50, 51, 52, 53, 54, 55, 56, 57]) (S [c])) = dgt c := by
  rw [← find_fig c, show ("0123456789" : Str) = S [48, 49, 50, 51, 52, 53, 54, 55, 56, 57] from by decide +kernel]
theorem r_find {a b : Str} {H : Hp} {Q : VK} (q : Q (.int (Txt.find a b)) H) : rFind (.str a) [.str b] H Q := ⟨a, b, rfl, rfl, q⟩
/-- behind the figures, and where they are at fault -/
def vbad (l : List Nat) (s : Nat) : V := if bad l s then .int (s : Int) else .non
def spRun : Sp := fun vs H Q _ => ∃ (l : List Nat) (s : Nat), vs = [.str (S l), .int (s : Int)] ∧ l.length ≤ 600 ∧ s ≤ l.length ∧
  ∀ (p : Addr) (H' : Hp), Same H H' → H' p = some (.tup [.int (runEnd l s : Nat), vbad l s]) → Q (.ref p) H'
def spDue : Sp := fun vs H Q _ => ∃ l : List Nat, vs = [.str (S l)] ∧ l.length ≤ 600 ∧ (∀ n, dueOf l = .inl n → ∀ H', Same H H' → Q (.int (n : Int)) H') ∧
  ∀ k, dueOf l = .inr k → ∀ (p : Addr) (H' : Hp), Same H H' → H' p = some (.tup [.str "number", .int (k : Int)]) → Q (.ref p) H'
theorem cutS_mid {l : List Nat} {i j : Nat} (hi : i ≤ j) (hj : j ≤ l.length) : cutS (S l) (some (i : Int)) (some (j : Int)) = S ((l.drop i).take (j - i)) := by
  unfold cutS
  rw [HT.sIx_nat, HT.sIx_nat, S_len, Nat.min_eq_left hj, Nat.min_eq_left (Nat.le_trans hi hj)]
theorem r_slS_mid {l : List Nat} {i j : Nat} {H : Hp} {Q : VK} (h : l.length ≤ 100000) (hi : i ≤ j) (hj : j ≤ l.length) (q : Q (.str (S ((l.drop i).take (j - i)))) H) : rSlS (.str (S l)) (some (i : Int)) (some (j : Int)) H Q :=
  ⟨S l, rfl, by rw [S_len]; exact Nat.le_trans h (by decide), by rw [cutS_mid hi hj]; exact q⟩
theorem take_rest {l : List Nat} {i j : Nat} (h : j = l.length) : (l.drop i).take (j - i) = l.drop i := List.take_of_length_le (by rw [List.length_drop]; omega)
theorem vbad_t {l : List Nat} {s : Nat} (h : bad l s = true) : vbad l s = .int (s : Int) := if_pos h
theorem vbad_f {l : List Nat} {s : Nat} (h : bad l s = false) : vbad l s = .non := if_neg (by rw [h]; decide)
/-- figures' test as int asks it -/
theorem digs_all {l : List Nat} (h : NumText.AllDigits l) : l.all (fun c => decide (48 ≤ c) && decide (c ≤ 57)) = true := List.all_eq_true.mpr fun c hc => by
  obtain ⟨h1, h2⟩ := h c hc
  simp [h1, h2]
theorem ne_of_good {l : List Nat} {s : Nat} (h : bad l s = false) : runEnd l s ≠ s := fun e => by
  rw [bad_iff.mpr (.inl e)] at h
  cases h
theorem runEnd_ge {l : List Nat} {s : Nat} : s ≤ runEnd l s := by
  unfold runEnd
  omega
theorem ite_someI {A B : Prop} {i : Int} (a : A) : if (!decide (V.int i = V.non)) = true then A else B := by
  rw [decide_eq_false (show ¬ V.int i = V.non from fun z => nomatch z)]
  exact a
theorem ite_noneI {A B : Prop} (b : B) : if (!decide (V.non = V.non)) = true then A else B := by
  rw [decide_eq_true (show V.non = V.non from rfl)]
  exact b
end Pw

namespace Pw
open PySem PySem.Spec PyProof.Rows L2 SX TL
section
variable {K : PySem.W.Frag} {H : Hp} {Q : VK}
theorem shaped_si {z : Str} {i : Int} (hz : PyData.strOk z = true) : SeqAt.shaped (.tuple [.str z, .int i]) = true := by
  simp [SeqAt.shaped, PyData.canLay0, PyData.canLayAll0, PyData.depth, PyData.depthAll, hz]
theorem eqv_si {z : Str} {i : Int} : PyData.eqv (.tuple [.str z, .int i]) (.tuple [.str z, .int i]) = true := by
  simp [PyData.eqv, PyData.eqvAll]
theorem r_neSI {p q : Addr} {z : Str} {i : Int} (hp : SqT K H p [.str z, .int i]) (hq : SqT K H q [.str z, .int i]) (k : Q (.bl false) H) (hz : PyData.strOk z = true := by decide +kernel) : rNeD K (.ref p) (.ref q) H Q :=
  ⟨.tuple [.str z, .int i], .tuple [.str z, .int i], .tup hp (.cons (.str z) (.cons (.int i) .nil)), .tup hq (.cons (.str z) (.cons (.int i) .nil)), shaped_si hz, shaped_si hz, by rw [eqv_si]; exact k⟩
end
def spRightT : Sp := fun vs H Q _ => ∃ l : List Nat, vs = [.str (S l)] ∧ l.length ≤ 600 ∧ ∀ H', Same H H' → Q (.bl true) H'
theorem ite_refN {A B : Prop} {a : Addr} (b : B) : if decide (V.ref a = V.non) = true then A else B := by
  rw [decide_eq_false (show ¬ V.ref a = V.non from fun z => nomatch z)]
  exact b
theorem dK_nx {i : Nat} {a : Addr} {cls : Value} {d : Option Addr} {D : Ends} {σ : L2.St} {H : Hp} (h : D.nx (σ.set i none) (upd H a (exK cls d a))) : (dKept i a cls d D).nx σ H := h
end Pw

namespace Pw
open PySem PySem.Spec PyProof.Rows L2 SX TL
/-- an own error just made, its one argument at t -/
def exS (C t a : Addr) : HO := .ext fun h => ∃ oe vs, h.get? a = some oe ∧ oe.cls = .ref C ∧ oe.data = .fields vs ∧ vs[0]? = some (.ref t)
theorem tupAt_of {h : Heap} {t : Addr} {vs : List Value} (x : IsTup h t vs.toArray) : h.TupAt t vs := by
  obtain ⟨o, h1, h2, n, h4⟩ := x
  exact ⟨o, n, h1, h2, h4⟩
def rStrE (K : PySem.W.Frag) : List V → Hp → VK → Prop := fun xs H Q => ∃ (a t C : Addr) (z : Str), xs = [.ref a] ∧ H a = some (exS C t a) ∧ H t = some (.tup [.str z]) ∧
  PySem.W.findIn K (.ref C) "__str__" = some (some (.builtin "BaseException.__str__")) ∧ PySem.W.subIn K (.ref C) (.type "BaseException") = some true ∧ Q (.str z) H
theorem call_strE {X : Cx} (hu : X.A.units + 2 < cLine) : CallR X (.type "str") (rStrE X.K) := by
  intro pins s σ H xs us Q I r h
  obtain ⟨a, t, C, z, rfl, ha, ht, hs, hB, q⟩ := h
  obtain ⟨u, rfl, ru⟩ := r.one
  obtain rfl : u = Value.ref a := ru
  obtain ⟨⟨oe, vs, e1, e2, e3, e4⟩, _, _⟩ := (show ObjOk X.prog X.w H s.heap a (exS C t a) from I.hok a _ ha)
  obtain ⟨_, its, rv, hT⟩ := (show ObjOk X.prog X.w H s.heap t (.tup [.str z]) from I.hok t _ ht)
  obtain ⟨v, rfl, rz⟩ := rv.one
  obtain ⟨tk, rfl⟩ := rz
  exact PySem.P.str_of_C_one hu ⟨I.kIn, oe, vs, e1, e2, e3, e4⟩ (tupAt_of hT) hs hB ⟨.str z, H, I, ⟨tk, rfl⟩, q⟩
/-- C(e), an own error's class without an __init__ of its own, one text: the error as a value -/
theorem pe_exs {X : Cx} {C : Addr} {bmB : List Value} {B newId initId : String} {x : Str} {e : Expr} {ta : TE} {p pos : Pos} (F : ExcBaseFacts B newId initId bmB) (q : PySem.W.excIn X.K C bmB newId = true) (gC : X.mg x = some (.ref C)) (kC : PySem.W.keepIn X.K (.ref C) = true) (hg : Gl X x) (hex : X.ex = [])
    (he : PE X e ta) (hs : starEach [e] X.env = (false, eval e X.env) :: starEach [] X.env := by rfl) (hdb : (x == ("__debug__" : Str)) = false := by decide) :
    PE X (.Call (.Name x p) [e] [] pos) (fun σ H Q => ta σ H fun v H1 => ∃ z, v = .str z ∧ ∀ t a, H1 t = none → H1 a = none → a ≠ t → Q (.ref a) (upd (upd H1 t (.tup [.str z])) a (exS C t a))) := by
  constructor
  intro pins s σ H Q I h
  apply wpAny_Call_Name_kw
  refine ld_glob I hg gC ?_ hdb
  refine PySem.W.callWith_K (h₀ := X.base) I.ok.mod.kin kC ?_ hs (by rfl)
  rw [hs]
  show wpAny _ _ (spliced ((false, eval e X.env) :: backTo pos (starEach [] X.env))) _ _ s
  refine Calls.spliced_cons (thn (he.run pins s σ H _ I h) fun u s1 hv => Calls.spliced_nil ?_)
  obtain ⟨v, H1, J, rv, z, rfl, k⟩ := hv
  obtain ⟨tk, rfl⟩ := rv
  refine ⟨J.kIn, ?_⟩
  show wpAny _ _ (call (.ref C) [.str z tk]) _ _ _
  obtain ⟨bm, N, nm, qn, bs, hdct, sn, sub, ab, col, dd, k0, k1, k2, k3, k5, mN, hC, hN, hni, T⟩ := exc_obj J.kIn q
  refine wpAny_call_exc_subT F T hC hN hni (fun h' a hm => ?_) (by show 1 ≤ sizeLine; rw [sizeLine_eq]; omega)
  obtain ⟨t, ha', nt, ht'⟩ := hm.there
  have na1 : H1 a = none := J.hok.gone hm.new
  have nt1 : H1 t = none := J.hok.gone nt
  have hat : a ≠ t := fun w => by
    rw [w, ht'] at ha'
    cases ha'
  have M1 := J.laidN (h' := h') (t' := s1.toks) (a := t) (o := .tup [.str z]) hm.keeps nt nt1 ⟨by show 1 ≤ sizeLine; rw [sizeLine_eq]; omega, [.str z tk], .cons ⟨tk, rfl⟩ .nil, _, ht', rfl, _, rfl⟩
  have fresh : ∀ {b o}, s1.heap.get? b = some o → b ≠ a := by
    intro b o e1 w
    rw [w, hm.new] at e1
    cases e1
  have M2 := inv_mark (o := exS C t a) M1
    (by
      cases e0 : X.s_0.heap.get? a with
      | none => rfl
      | some o =>
        obtain ⟨o', e1⟩ := J.base.there a o e0 (by rw [hex]; exact fun w => nomatch w)
        exact absurd rfl (fresh e1))
    (by rw [upd_ne hat]; exact na1)
    (fun w => by
      obtain ⟨m, ⟨o, _, _, e1, _⟩, _⟩ := J.loc
      exact fresh e1 w.symm)
    (fun y c e1 w => by
      obtain ⟨v, o, e2, _⟩ := J.cell y c e1
      exact fresh e2 w)
    (fun p hp w => fresh (J.pin p hp).1 w)
    ⟨⟨_, _, ha', rfl, rfl, rfl⟩, ⟨_, ha'⟩, fun _ _ ⟨o, v, e1, r⟩ kk => ⟨o, v, kk o e1, r⟩⟩
  exact ⟨.ref a, _, M2, rfl, k t a nt1 na1 hat⟩
end Pw

namespace K03
open PySem PySem.Spec PyProof.Rows L2 Pw SX
def top (i : Nat) : Stmt := PySem.Challenge.pw_powernumbers_k03_texts_of_no_numbers.main.body.getD i (.Pass ⟨0, 0, 0, 0⟩)
abbrev s_taken : Stmt := top 8
theorem sc_taken : FnScope ["base", "exponent", "power", "place"] ["base", "exponent"] (defScope s_taken) := ⟨rfl, rfl, rfl, by decide +kernel, rfl, by decide +kernel, by decide +kernel⟩
abbrev s_read_number : Stmt := top 9
theorem sc_read_number : FnScope ["text", "base_end", "start", "end", "exponent"] ["text"] (defScope s_read_number) := ⟨rfl, rfl, rfl, by decide +kernel, rfl, by decide +kernel, by decide +kernel⟩
abbrev s_figures_end : Stmt := top 10
theorem sc_figures_end : FnScope ["text", "start", "end"] ["text", "start"] (defScope s_figures_end) := ⟨rfl, rfl, rfl, by decide +kernel, rfl, by decide +kernel, by decide +kernel⟩
abbrev s_worth : Stmt := top 11
theorem sc_worth : FnScope ["figures", "number", "figure"] ["figures"] (defScope s_worth) := ⟨rfl, rfl, rfl, by decide +kernel, rfl, by decide +kernel, by decide +kernel⟩
abbrev s_law_mix : Stmt := top 13
theorem sc_law_mix : FnScope ["cell", "k", "number"] ["cell", "k"] (defScope s_law_mix) := ⟨rfl, rfl, rfl, by decide +kernel, rfl, by decide +kernel, by decide +kernel⟩
abbrev s_law_deck : Stmt := top 14
theorem sc_law_deck : FnScope ["script"] ["script"] (defScope s_law_deck) := ⟨rfl, rfl, rfl, by decide +kernel, rfl, by decide +kernel, by decide +kernel⟩
abbrev s_law_next : Stmt := top 15
theorem sc_law_next : FnScope ["deck", "many", "cell", "found"] ["deck", "many"] (defScope s_law_next) := ⟨rfl, rfl, rfl, by decide +kernel, rfl, by decide +kernel, by decide +kernel⟩
abbrev s_law_great : Stmt := top 16
theorem sc_law_great : FnScope ["deck", "most", "found", "k"] ["deck", "most"] (defScope s_law_great) := ⟨rfl, rfl, rfl, by decide +kernel, rfl, by decide +kernel, by decide +kernel⟩
abbrev s_law_a_power : Stmt := top 17
theorem sc_law_a_power : FnScope ["deck", "most", "exponent", "places", "few", "base", "found", "k"] ["deck", "most"] (defScope s_law_a_power) := ⟨rfl, rfl, rfl, by decide +kernel, rfl, by decide +kernel, by decide +kernel⟩
abbrev s_law_number : Stmt := top 18
theorem sc_law_number : FnScope ["deck", "most", "near", "some"] ["deck", "most"] (defScope s_law_number) := ⟨rfl, rfl, rfl, by decide +kernel, rfl, by decide +kernel, by decide +kernel⟩
abbrev s_law_taken : Stmt := top 19
theorem sc_law_taken : FnScope ["base", "exponent", "found", "k"] ["base", "exponent"] (defScope s_law_taken) := ⟨rfl, rfl, rfl, by decide +kernel, rfl, by decide +kernel, by decide +kernel⟩
abbrev s_law_is_whole : Stmt := top 20
theorem sc_law_is_whole : FnScope ["found", "due"] ["found", "due"] (defScope s_law_is_whole) := ⟨rfl, rfl, rfl, by decide +kernel, rfl, by decide +kernel, by decide +kernel⟩
abbrev s_law_are_wholes : Stmt := top 21
theorem sc_law_are_wholes : FnScope ["found", "due", "one"] ["found", "due"] (defScope s_law_are_wholes) := ⟨rfl, rfl, rfl, by decide +kernel, rfl, by decide +kernel, by decide +kernel⟩
abbrev s_law_kind : Stmt := top 22
theorem sc_law_kind : FnScope ["caught", "kinds"] ["caught"] (defScope s_law_kind) := ⟨rfl, rfl, rfl, by decide +kernel, rfl, by decide +kernel, by decide +kernel⟩
abbrev s_law_sign : Stmt := top 23
theorem sc_law_sign : FnScope ["deck", "signs", "some"] ["deck"] (defScope s_law_sign) := ⟨rfl, rfl, rfl, by decide +kernel, rfl, by decide +kernel, by decide +kernel⟩
abbrev s_law_spoilt : Stmt := top 24
theorem sc_law_spoilt : FnScope ["deck", "text", "k", "at", "sign", "some"] ["deck", "text"] (defScope s_law_spoilt) := ⟨rfl, rfl, rfl, by decide +kernel, rfl, by decide +kernel, by decide +kernel⟩
abbrev s_law_run : Stmt := top 25
theorem sc_law_run : FnScope ["text", "first", "last"] ["text", "first"] (defScope s_law_run) := ⟨rfl, rfl, rfl, by decide +kernel, rfl, by decide +kernel, by decide +kernel⟩
abbrev s_law_due : Stmt := top 26
theorem sc_law_due : FnScope ["text", "last", "fault", "end"] ["text"] (defScope s_law_due) := ⟨rfl, rfl, rfl, by decide +kernel, rfl, by decide +kernel, by decide +kernel⟩
abbrev s_law_right : Stmt := top 27
theorem sc_law_right : FnScope ["text", "due", "again", "found", "caught", "e"] ["text"] (defScope s_law_right) := ⟨rfl, rfl, rfl, by decide +kernel, rfl, by decide +kernel, by decide +kernel⟩
abbrev s_law : Stmt := top 28
theorem sc_law : FnScope ["script", "deck", "turn", "base", "exponent", "text", "some", "free", "said", "fixed", "k", "odd"] ["script"] (defScope s_law) := ⟨rfl, rfl, rfl, by decide +kernel, rfl, by decide +kernel, by decide +kernel⟩
end K03

open PySem PySem.Spec PyProof.Rows L2 Pw SX
local macro_rules | `(tactic| walk_at "p1") => `(tactic| first
  | with_reducible refine r_seq ?_
  | with_reducible refine r_set ?_
  | with_reducible refine r_op ?_
  | with_reducible refine' r_var (by with_unfolding_all exact rfl) ?_
  | with_reducible refine r_c ?_
  | with_reducible refine r_I0 ?_
  | with_reducible refine r_exB ?_
  | with_reducible refine r_exI ?_
  | with_reducible refine r_test ?_
  | with_reducible refine r_if ?_
  | with_reducible refine r_eqI ?_
  | with_reducible refine r_neI ?_
  | with_reducible refine r_ret ?_
  | with_reducible refine r_cons ?_
  | with_reducible refine r_nil ?_
  | with_reducible refine r_call ?_
  | with_reducible refine r_CB ?_
  | with_reducible refine r_asg ?_
  | with_reducible refine r_drop ?_
  | with_reducible refine r_and ?_
  | with_reducible refine r_or ?_
  | with_reducible refine r_not ?_
  | with_reducible refine iteT ?_
  | with_reducible refine iteF ?_
  | with_reducible refine iteNT ?_
  | with_reducible refine iteNF ?_
  | with_reducible refine r_B ?_
  | with_reducible refine r_andV ?_
  | with_reducible refine r_orV ?_
  | with_reducible refine r_notV ?_
  | with_reducible refine r_tup ?_
  | with_reducible refine r_lst ?_
  | with_reducible refine r_min2 ?_
  | with_reducible refine r_max2 ?_
  | with_reducible refine r_sl ?_
  | with_reducible refine r_noPart ?_
  | with_reducible refine r_part ?_
  | with_reducible refine r_gName ?_
  | with_reducible refine r_gSub ?_
  | with_reducible refine r_bits ?_
  | with_reducible refine r_truth ?_
  | with_reducible refine r_truI ?_
  | with_reducible refine r_truB ?_
  | with_reducible refine r_un ?_
  | with_reducible refine r_U ?_
  | with_reducible refine r_next ?_
  | with_reducible refine r_BM ?_
  | with_reducible refine r_for ?_
  | with_reducible refine r_rng1 ?_
  | with_reducible refine r_ex1 ?_
  | with_reducible refine r_iList ?_
  | with_reducible refine r_iTup ?_
  | with_reducible refine r_revR ?_
  | with_reducible refine r_tRg1 ?_
  | with_reducible refine r_ifE ?_
  | with_reducible refine r_lc ?_
  | with_reducible refine' r_ixL (SqL.of (by assumption)) (by with_unfolding_all exact rfl) ?_
  | with_reducible refine' r_ixT (SqT.of (by assumption)) (by with_unfolding_all exact rfl) ?_
  | with_reducible refine' r_lenL (SqL.of (by assumption)) ?_
  | with_reducible refine' r_lenT (SqT.of (by assumption)) ?_
  | with_reducible refine' r_slL (by first | with_reducible assumption | exact SqL.of (by with_reducible assumption)) ?_
  | with_reducible refine r_pow2 ?_
  | with_reducible refine r_pow3 ?_
  | with_reducible refine r_pow4 ?_
  | with_reducible refine r_pow5 ?_
  | with_reducible refine r_pow6 ?_
  | with_reducible refine r_pow8 ?_
  | with_reducible refine r_pow9 ?_
  | with_reducible refine r_pow10 ?_
  | with_reducible refine r_pow11 ?_
  | with_reducible refine r_pow12 ?_
  | with_reducible refine r_pow18 ?_
  | with_reducible refine r_pow20 ?_
  | with_reducible refine r_pow30 ?_
  | with_reducible refine r_pow35 ?_
  | with_reducible refine r_pow40 ?_
  | with_reducible refine r_pow41 ?_
  | with_reducible refine r_pow42 ?_
  | with_reducible refine r_pow50 ?_
  | with_reducible refine r_pow60 ?_
  | with_reducible refine r_I (by with_unfolding_all decide) ?_)
local macro_rules | `(tactic| walk_at "ps") => `(tactic| first
  | with_reducible refine r_M1 ?_
  | with_reducible refine r_rng2 ?_
  | with_reducible refine r_yes ?_
  | with_reducible refine r_rng3 ?_
  | with_reducible refine r_ex2 ?_
  | with_reducible refine' r_aug (by with_unfolding_all exact rfl) ?_
  | with_reducible refine r_ipI ?_
  | with_reducible refine r_exS ?_
  | with_reducible refine r_eqSS ?_
  | with_reducible refine r_neSS ?_
  | with_reducible refine r_inSign ?_
  | with_reducible refine r_iStr ?_
  | with_reducible refine r_exStr ?_
  | with_reducible refine r_revL ?_)
local macro_rules | `(tactic| walk_at "pi") => `(tactic| first
  | with_reducible refine r_isiII ?_
  | with_reducible refine r_isiIB ?_
  | with_reducible refine r_isiIT ?_
  | with_reducible refine r_isiBB ?_
  | with_reducible refine r_isiSS ?_
  | with_reducible refine' r_isiTT (by assumption) ?_
  | with_reducible refine' r_isiTB (by assumption) ?_
  | with_reducible refine' r_isiTI (by assumption) ?_)
local macro_rules | `(tactic| walk_at "pw") => `(tactic| repeat (first | walk_at "p1" | walk_at "pi" | walk_at "ps"))
local macro_rules | `(tactic| walk_at "p0") => `(tactic| ((try simp only [cxK, cxK2, lit_e, lit_fig, lit_0, lit_hat, lit_00, lit_210]); repeat (first | walk_at "p1" | walk_at "pi" | walk_at "ps")))
local macro_rules | `(tactic| walk_at "pm") => `(tactic| first
  | refine r_I (mulx_of 40 40 (by first | decide | omega) (by first | decide | omega) (by decide)) ?_
  | refine r_I (mulx_of 100 100 (by first | decide | omega) (by first | decide | omega) (by decide)) ?_
  | refine r_I (mulx_of 400 400 (by first | decide | omega) (by first | decide | omega) (by decide)) ?_)
local macro_rules | `(tactic| walk_at "pd") => `(tactic| refine r_I (show CDivW _ _ from wide_div (b := 400) (by first | decide | omega) (by first | decide | omega) (by decide) (by decide)) ?_)

namespace K03
open PySem PySem.Spec PyProof.Rows L2 Pw SX
section
variable {P : Program} {w : World} {K : PySem.W.Frag} {mg : Str → Option Value} {base : Heap}
theorem ok_law_mix (F : Pl K mg "_law_mix" s_law_mix ["cell", "k"]) : Def P w K mg base 1 "_law_mix" ["cell", "k"] spMix := by
  refine F.ok sc_law_mix (fun vs H Q E h => ?_) (fun f cdv A outer s H vs Q E hr h => ?_)
  · obtain ⟨c, k, rfl, _⟩ := h
    rfl
  · obtain ⟨cell, k, rfl, k0, k1, q⟩ := h
    refine ⟨_, (pss_cons (ps_set (i := 2) sc_law_mix.nd rfl (Or.inl rfl) (pe_op op_add (pe_op op_mod (pv 0) pe_int) (pe_op op_mulX (pe_op op_mulX pe_int (pv 1)) (pv 1))))
      (pss_cons (ps_set (i := 2) sc_law_mix.nd rfl (Or.inl rfl) (pe_op op_mod (pe_op op_add (pv 2) (pe_op op_mulX pe_int (pv 1))) pe_int))
      (pss_cons (ps_set (i := 2) sc_law_mix.nd rfl (Or.inl rfl) (pe_op op_mod (pe_op op_mulX (pv 2) (pv 2)) pe_int))
      (pss_one (ps_ret (pe_op op_fdivW (pe_op op_mod (pe_op op_mulX (pv 2) (pe_op op_add (pv 2) pe_int)) pe_int) pe_int)))))), ?_⟩
    refine at_st [some (.int cell), some (.int k), none] rfl ?_
    walk_at "pw"
    walk_at "pm"
    walk_at "pw"
    walk_at "pm"
    walk_at "pw"
    walk_at "pm"
    walk_at "pw"
    walk_at "pm"
    walk_at "pw"
    walk_at "pm"
    walk_at "pw"
    walk_at "pd"
    walk_at "pw"
    refine q _ ?_
    omega
theorem ok_law_deck (F : Pl K mg "_law_deck" s_law_deck ["script"]) (B : Bl mg) : Def P w K mg base 1 "_law_deck" ["script"] (spDeck K) := by
  refine F.ok sc_law_deck (fun vs H Q E h => ?_) (fun f cdv A outer s H vs Q E hr h => ?_)
  · obtain ⟨a, ns, rfl, _⟩ := h
    rfl
  · obtain ⟨a, ns, rfl, hS, q⟩ := h
    refine ⟨_, (pss_one (ps_ret (pe_lst (pa_cons (pe_slice sl_list (pv 0) po_none (po_some pe_int)) (pa_cons pe_int (pa_cons pe_int (pa_cons pe_int (pa_cons (pe_callB (cr_sum rfl) (by rfl) B.sum (by decide +kernel) (pa_cons (pe_slice sl_list (pv 0) po_none (po_some pe_int)) pa_nil)) pa_nil)))))))), ?_⟩
    refine at_st [some (.ref a)] rfl ?_
    walk_at "p0"
    refine newC fun c H1 nc hc s1 => ?_
    walk_at "pw"
    refine r_slL (s1.seq hS) (newC fun c2 H2 nc2 hc2 s2 => ?_)
    walk_at "pw"
    rw [show (63 : Int) = ((63 : Nat) : Int) from rfl, cut_to] at hc hc2
    refine r_sum (SqL.of hc2) ?_
    walk_at "pw"
    refine newL (by simp) fun d H3 nd hd s3 => ?_
    have s13 := s1.trans (s2.trans s3)
    refine q d c H3 ((s1.trans s2).free nd) s13 ⟨ns.take 63, 0, 0, 0, _, hd, s3 _ _ (s2 _ _ hc), ?_, by decide, by omega, by rw [List.length_take]; omega, by decide, by decide, by omega⟩
    exact ne_of_none (s2 _ _ hc) nd
theorem ok_law_next (F : Pl K mg "_law_next" s_law_next ["deck", "many"]) (B : Bl mg) (D_law_mix : Def P w K mg base 1 "_law_mix" ["cell", "k"] spMix) : Def P w K mg base 2 "_law_next" ["deck", "many"] spNext := by
  refine F.ok sc_law_next (fun vs H Q E h => ?_) (fun f cdv A outer s H vs Q E hr h => ?_)
  · obtain ⟨d, c, m, n, rfl, _⟩ := h
    rfl
  · obtain ⟨d, c, many, n, rfl, m0, m1, D, hn, q⟩ := h
    obtain ⟨cells, b, l, m, t, hd, hc, ncd, b0, b1, c63, l0, mm0, mm1⟩ := D.ex
    have hdiv : CDivW l many := wide_div (b := 8000) m0 m1 (by decide) (by decide)
    refine ⟨_, (pss_cons (ps_if (PW.pt (pw_and (pt_cmpR op_eq (pe_ix ix_list (pv 0) pe_int (fun _ _ => rfl)) pe_int (nomark _)) (pw_and1 (pt_cmpR op_lt (pe_ix ix_list (pv 0) pe_int (fun _ _ => rfl)) (pe_callB cr_lenS (by rfl) B.len PySem.boot_len (pa_cons (pe_ix ix_list (pv 0) pe_int (fun _ _ => rfl)) pa_nil)) (nomark _))))) (pss_cons (ps_set (i := 2) sc_law_next.nd rfl (Or.inl rfl) (pe_ix ix_list (pe_ix ix_list (pv 0) pe_int (fun _ _ => rfl)) (pe_ix ix_list (pv 0) pe_int (fun _ _ => rfl)) (fun _ _ => rfl)))
      (pss_cons (ps_asg (pe_op op_add (pe_ix ix_list (pv 0) pe_int (fun _ _ => rfl)) pe_int) (pg_sub (pv 0) pe_int set_list))
      (pss_cons (ps_if (pt_cmpR op_lt (pv 2) (pe_op op_pow pe_int pe_int) (nomark _)) (pss_one (ps_ret (pe_op op_mod (pe_df D_law_mix hr (by rfl) (pa_cons (pv 2) (pa_cons (pe_ix ix_list (pv 0) pe_int (fun _ _ => rfl)) pa_nil))) (pv 1)))) pss_nil)
      (pss_one (ps_asg (pv 2) (pg_sub (pv 0) pe_int set_list)))))) pss_nil)
      (pss_cons (ps_if (pt_cmpR op_gt (pe_ix ix_list (pv 0) pe_int (fun _ _ => rfl)) pe_int (nomark _)) (pss_cons (ps_set (i := 3) sc_law_next.nd rfl (Or.inl rfl) (pe_op op_mod (pe_ix ix_list (pv 0) pe_int (fun _ _ => rfl)) (pv 1)))
      (pss_cons (ps_asg (pe_op op_fdivW (pe_ix ix_list (pv 0) pe_int (fun _ _ => rfl)) (pv 1)) (pg_sub (pv 0) pe_int set_list))
      (pss_one (ps_ret (pv 3))))) pss_nil)
      (pss_cons (ps_asg (pe_op op_add (pe_ix ix_list (pv 0) pe_int (fun _ _ => rfl)) pe_int) (pg_sub (pv 0) pe_int set_list))
      (pss_one (ps_ret (pe_op op_mod (pe_df D_law_mix hr (by rfl) (pa_cons (pe_ix ix_list (pv 0) pe_int (fun _ _ => rfl)) (pa_cons (pe_op op_add (pe_ix ix_list (pv 0) pe_int (fun _ _ => rfl)) pe_int) pa_nil))) (pv 1))))))), ?_⟩
    refine at_st [some (.ref d), some (.int many), none, none] rfl ?_
    walk_at "p0"
    refine r_iteI (fun e0 => ?_) (fun e0 => ?_)
    · walk_at "pw"
      refine r_ite (fun e1 => ?_) (fun e1 => ?_)
      · rw [List.length_map] at e1
        walk_at "pw"
        obtain ⟨j, rfl⟩ := Int.eq_ofNat_of_zero_le b0
        have hj : j < cells.length := by omega
        refine r_ixL (SqL.of hc) (v := .int cells[j]) (at_of rfl (by rw [List.getElem?_map, List.getElem?_eq_getElem hj]; rfl)) ?_
        walk_at "pw"
        refine r_setLx [.ref c, .int ((j : Int) + 1), .int l, .int m, .int t] hd rfl rfl fun H1 hd1 k1 => ?_
        have hc1 := k1 _ _ ncd hc
        walk_at "pw"
        refine r_ite (fun e2 => ?_) (fun e2 => ?_)
        · walk_at "pw"
          refine ⟨_, _, rfl, by omega, by omega, fun r hr0 => ?_⟩
          walk_at "pw"
          refine r_I m0 ?_
          refine q _ _ (Int.emod_nonneg _ (by omega)) (Int.emod_lt_of_pos _ m0) k1 ⟨cells, _, _, _, _, hd1, hc1, ncd, by omega, by omega, c63, l0, mm0, by omega⟩
        · have hp : (0 : Int) < cells[j] := by
            omega
          walk_at "pw"
          refine r_setLx [.ref c, .int ((j : Int) + 1), .int cells[j], .int m, .int t] hd1 rfl rfl fun H2 hd2 k2 => ?_
          have hc2 := k2 _ _ ncd hc1
          walk_at "pw"
          refine r_ite (fun _ => ?_) (fun e4 => absurd hp e4)
          walk_at "pw"
          refine r_I m0 ?_
          walk_at "pw"
          refine r_I (wide_div (b := 8000) m0 m1 (by decide) (by decide)) ?_
          walk_at "pw"
          refine r_setLx [.ref c, .int ((j : Int) + 1), .int (cells[j] / many), .int m, .int t] hd2 rfl rfl fun H3 hd3 k3 => ?_
          walk_at "pw"
          refine q _ _ (Int.emod_nonneg _ (by omega)) (Int.emod_lt_of_pos _ m0) (k1.trans (k2.trans k3)) ⟨cells, _, _, _, _, hd3, k3 _ _ ncd hc2, ncd, by omega, by omega, c63, Int.ediv_nonneg (by omega) (by omega), mm0, by omega⟩
      · walk_at "pw"
        refine r_ite (fun e4 => absurd e4 (by omega)) (fun _ => ?_)
        walk_at "pw"
        refine r_setLx [.ref c, .int b, .int l, .int (m + 1), .int t] hd rfl rfl fun H1 hd1 k1 => ?_
        walk_at "pw"
        refine ⟨_, _, rfl, by omega, by omega, fun r hr0 => ?_⟩
        walk_at "pw"
        refine r_I m0 ?_
        refine q _ _ (Int.emod_nonneg _ (by omega)) (Int.emod_lt_of_pos _ m0) k1 ⟨cells, _, _, _, _, hd1, k1 _ _ ncd hc, ncd, by omega, by omega, c63, l0, by omega, by omega⟩
    · walk_at "pw"
      refine r_ite (fun _ => ?_) (fun e4 => absurd (show 0 < l by omega) e4)
      walk_at "pw"
      refine r_I m0 ?_
      walk_at "pw"
      refine r_I hdiv ?_
      walk_at "pw"
      refine r_setLx [.ref c, .int b, .int (l / many), .int m, .int t] hd rfl rfl fun H1 hd1 k1 => ?_
      walk_at "pw"
      refine q _ _ (Int.emod_nonneg _ (by omega)) (Int.emod_lt_of_pos _ m0) k1 ⟨cells, _, _, _, _, hd1, k1 _ _ ncd hc, ncd, by omega, by omega, c63, Int.ediv_nonneg (by omega) (by omega), mm0, by omega⟩
theorem ok_law_great (F : Pl K mg "_law_great" s_law_great ["deck", "most"]) (B : Bl mg) (D_law_next : Def P w K mg base 2 "_law_next" ["deck", "many"] spNext) : Def P w K mg base 3 "_law_great" ["deck", "most"] spGreat := by
  refine F.ok sc_law_great (fun vs H Q E h => ?_) (fun f cdv A outer s H vs Q E hr h => ?_)
  · obtain ⟨d, c, m, n, rfl, _⟩ := h
    rfl
  · obtain ⟨d, c, most, n, rfl, m0, D, hn, q⟩ := h
    refine ⟨_, (pss_cons (ps_set (i := 2) sc_law_great.nd rfl (Or.inl rfl) pe_int)
      (pss_cons (ps_for PassesOwn.never rfl (pi_range1 (by rfl) B.range (pa_cons pe_int pa_nil)) (pg_name (i := 3) sc_law_great.nd rfl (Or.inl rfl))
      (pss_one (ps_set (i := 2) sc_law_great.nd rfl (Or.inl rfl) (pe_op op_add (pe_op op_mulX (pv 2) (pe_op op_pow pe_int pe_int)) (pe_df D_law_next hr (by rfl) (pa_cons (pv 0) (pa_cons (pe_op op_pow pe_int pe_int) pa_nil)))))))
      (pss_one (ps_ret (pe_op op_mod (pv 2) (pv 1)))))), ?_⟩
    refine at_st [some (.ref d), some (.int most), none, none] rfl ?_
    walk_at "p0"
    refine ⟨by decide, by decide, for_range (fun i σ H' => ∃ (z : Int) (v : Option V), σ = [some (.ref d), some (.int most), some (.int z), v] ∧ 0 ≤ z ∧ z < 2 ^ (20 * i) ∧ Keep d H H' ∧ DeckAt H' d c (n + i)) ⟨0, none, rfl, by decide, by decide, Keep.refl, D⟩ ?_ ?_⟩
    · rintro i σ H1 hi ⟨z, v, rfl, z0, z1, k1, D1⟩
      have hi8 : i < 8 := hi
      have zb : z.natAbs < 2 ^ 160 := by
        have : (2 : Int) ^ (20 * i) ≤ 2 ^ 140 := by
          have : (2 : Nat) ^ (20 * i) ≤ 2 ^ 140 := Nat.pow_le_pow_right (by decide) (by omega)
          exact_mod_cast this
        have e : (2 : Int) ^ 140 < 2 ^ 160 := by decide
        have e2 : ((2 : Nat) ^ 160 : Nat) = ((2 : Int) ^ 160).toNat := by decide
        omega
      walk_at "pw"
      refine r_I (mulx_of 160 40 zb (by decide) (by decide)) ?_
      walk_at "pw"
      refine ⟨_, _, _, _, rfl, by decide, by decide, D1, by omega, fun r H2 r0 r1 k2 D2 => ?_⟩
      walk_at "pw"
      refine ⟨_, _, rfl, by omega, ?_, k1.trans k2, D2⟩
      have e : (2 : Int) ^ (20 * (i + 1)) = 2 ^ (20 * i) * 1048576 := by
        rw [show 20 * (i + 1) = 20 * i + 20 by omega, Int.pow_add]
        rfl
      rw [e]
      omega
    · rintro σ H1 ⟨z, v, rfl, z0, z1, k1, D1⟩
      walk_at "pw"
      refine r_I m0 ?_
      exact q _ _ (Int.emod_nonneg _ (by omega)) (Int.emod_lt_of_pos _ m0) k1 D1
theorem ok_law_a_power (F : Pl K mg "_law_a_power" s_law_a_power ["deck", "most"]) (B : Bl mg) (D_law_next : Def P w K mg base 2 "_law_next" ["deck", "many"] spNext) (D_law_great : Def P w K mg base 3 "_law_great" ["deck", "most"] spGreat) :
    Def P w K mg base 4 "_law_a_power" ["deck", "most"] spAPower := by
  refine F.ok sc_law_a_power (fun vs H Q E h => ?_) (fun f cdv A outer s H vs Q E hr h => ?_)
  · obtain ⟨d, c, m, n, rfl, _⟩ := h
    rfl
  · obtain ⟨d, c, most, n, rfl, m0, m1, D, hn, q⟩ := h
    refine ⟨_, (pss_cons (ps_set (i := 2) sc_law_a_power.nd rfl (Or.inl rfl) (pe_ix ix_list (pe_lst (pa_cons (pe_op op_add pe_int (pe_df D_law_next hr (by rfl) (pa_cons (pv 0) (pa_cons pe_int pa_nil)))) (pa_cons (pe_op op_add pe_int (pe_df D_law_next hr (by rfl) (pa_cons (pv 0) (pa_cons pe_int pa_nil)))) (pa_cons (pe_op op_add pe_int (pe_df D_law_next hr (by rfl) (pa_cons (pv 0) (pa_cons pe_int pa_nil)))) pa_nil)))) (pe_df D_law_next hr (by rfl) (pa_cons (pv 0) (pa_cons pe_int pa_nil))) (fun _ _ => rfl)))
      (pss_cons (ps_set (i := 3) sc_law_a_power.nd rfl (Or.inl rfl) (pe_op op_add pe_int (pe_df D_law_next hr (by rfl) (pa_cons (pv 0) (pa_cons (pe_op op_add (pe_op op_fdivW pe_int (pe_callB (cr_min2 rfl) (by rfl) B.min (by decide +kernel) (pa_cons pe_int (pa_cons (pv 2) pa_nil)))) pe_int) pa_nil)))))
      (pss_cons (ps_set (i := 4) sc_law_a_power.nd rfl (Or.inl rfl) (pe_op op_add pe_int (pe_df D_law_next hr (by rfl) (pa_cons (pv 0) (pa_cons pe_int pa_nil)))))
      (pss_cons (ps_set (i := 5) sc_law_a_power.nd rfl (Or.inl rfl) (pe_ix ix_list (pe_lst (pa_cons (pv 4) (pa_cons (pv 4) (pa_cons (pe_op op_add pe_int (pe_op op_mod (pe_df D_law_great hr (by rfl) (pa_cons (pv 0) (pa_cons (pe_op op_pow pe_int pe_int) pa_nil))) (pe_op op_shlW pe_int (pe_op op_mulX pe_int (pv 3))))) pa_nil)))) (pe_df D_law_next hr (by rfl) (pa_cons (pv 0) (pa_cons pe_int pa_nil))) (fun _ _ => rfl)))
      (pss_cons (ps_set (i := 6) sc_law_a_power.nd rfl (Or.inl rfl) pe_int)
      (pss_cons (ps_for PassesOwn.never rfl (pi_range1 (by rfl) B.range (pa_cons (pv 2) pa_nil)) (pg_name (i := 7) sc_law_a_power.nd rfl (Or.inl rfl))
      (pss_one (ps_if (pt_cmpR op_le (pe_op op_mulX (pv 6) (pv 5)) (pv 1) (nomark _)) (pss_one (ps_set (i := 6) sc_law_a_power.nd rfl (Or.inl rfl) (pe_op op_mulX (pv 6) (pv 5)))) pss_nil)))
      (pss_one (ps_ret (pv 6))))))))), ?_⟩
    refine at_st [some (.ref d), some (.int most), none, none, none, none, none, none] rfl ?_
    walk_at "p0"
    refine ⟨_, _, _, _, rfl, by decide, by decide, D, by omega, fun r1 H1 r10 r11 k1 D1 => ?_⟩
    walk_at "pw"
    refine ⟨_, _, _, _, rfl, by decide, by decide, D1, by omega, fun r2 H2 r20 r21 k2 D2 => ?_⟩
    walk_at "pw"
    refine ⟨_, _, _, _, rfl, by decide, by decide, D2, by omega, fun r3 H3 r30 r31 k3 D3 => ?_⟩
    walk_at "pw"
    refine newL (by simp) fun p1 H4 np1 hp1 s4 => ?_
    walk_at "pw"
    refine ⟨_, _, _, _, rfl, by decide, by decide, D3.same s4, by omega, fun r4 H5 r40 r41 k5 D5 => ?_⟩
    have hp5 := k5 _ _ (D3.ne np1) hp1
    walk_at "pw"
    obtain ⟨e, he, ha⟩ := at_ints (ns := [2 + r1, 2 + r2, 2 + r3]) r40 r41
    have e2 : 2 ≤ e ∧ e ≤ 200 := by
      simp only [List.mem_cons, List.not_mem_nil, or_false] at he
      omega
    refine r_ixL (SqL.of hp5) ha ?_
    walk_at "pw"
    have em : (if e < 40 then e else 40) = min e 40 := by omega
    rw [em]
    refine r_I (show CDivW _ _ from wide_div (b := 400) (by omega) (by omega) (by decide) (by decide)) ?_
    walk_at "pw"
    have q40 : 0 ≤ 40 / min e 40 ∧ 40 / min e 40 ≤ 40 := ⟨Int.ediv_nonneg (by omega) (by omega), Int.ediv_le_self _ (by omega)⟩
    refine ⟨_, _, _, _, rfl, by omega, by omega, D5, by omega, fun r5 H6 r50 r51 k6 D6 => ?_⟩
    walk_at "pw"
    refine ⟨_, _, _, _, rfl, by decide, by decide, D6, by omega, fun r6 H7 r60 r61 k7 D7 => ?_⟩
    walk_at "pw"
    refine ⟨_, _, _, _, rfl, by decide, D7, by omega, fun r7 H8 r70 r71 k8 D8 => ?_⟩
    walk_at "pw"
    walk_at "pm"
    walk_at "pw"
    refine r_shl1 (by omega) (by omega) fun k8' ek => ?_
    refine r_I (pow2_pos _) ?_
    walk_at "pw"
    have b7 := emod_le (a := r7) (b := 2 ^ k8') r70 (Int.le_of_lt (pow2_pos _))
    have b7' := Int.emod_nonneg r7 (Int.ne_of_gt (pow2_pos k8'))
    generalize r7 % 2 ^ k8' = r7' at *
    refine newL (by simp) fun p2 H9 np2 hp2 s9 => ?_
    walk_at "pw"
    refine ⟨_, _, _, _, rfl, by decide, by decide, D8.same s9, by omega, fun r8 H10 r80 r81 k10 D10 => ?_⟩
    have hp10 := k10 _ _ (D8.ne np2) hp2
    walk_at "pw"
    obtain ⟨b, hb, hab⟩ := at_ints (ns := [2 + r6, 2 + r6, 1 + r7']) r80 r81
    have b2 : 0 < b ∧ b.natAbs < 2 ^ 200 := by
      simp only [List.mem_cons, List.not_mem_nil, or_false] at hb
      omega
    refine r_ixL (SqL.of hp10) hab ?_
    walk_at "pw"
    have keep : Keep d H H10 := k1.trans (k2.trans (k3.trans ((Keep.of s4).trans (k5.trans (k6.trans (k7.trans (k8.trans ((Keep.of s9).trans k10))))))))
    refine ⟨by omega, by omega, for_range (fun i σ H' => ∃ (z : Int) (v : Option V), σ = [some (.ref d), some (.int most), some (.int e), some (.int (1 + r5)), some (.int (2 + r6)), some (.int b), some (.int z), v] ∧ 0 < z ∧ z ≤ most ∧ H' = H10) ⟨1, none, rfl, by decide, by omega, rfl⟩ ?_ ?_⟩
    · rintro i σ H11 hi ⟨z, v, rfl, z0, z1, rfl⟩
      walk_at "pw"
      refine r_I (mulx_of 201 201 (by omega) (by omega) (by decide)) ?_
      walk_at "pw"
      refine r_ite (fun hle => ?_) (fun _ => ?_)
      · walk_at "pw"
        refine r_I (mulx_of 201 201 (by omega) (by omega) (by decide)) ?_
        exact ⟨z * b, _, rfl, mul_pos1 z0 b2.1, hle, rfl⟩
      · walk_at "pw"
        exact ⟨z, _, rfl, z0, z1, rfl⟩
    · rintro σ H11 ⟨z, v, rfl, z0, z1, rfl⟩
      walk_at "pw"
      exact q _ _ z0 z1 keep (D10.mono (by omega))
theorem ok_law_number (F : Pl K mg "_law_number" s_law_number ["deck", "most"]) (B : Bl mg) (D_law_next : Def P w K mg base 2 "_law_next" ["deck", "many"] spNext) (D_law_great : Def P w K mg base 3 "_law_great" ["deck", "most"] spGreat) (D_law_a_power : Def P w K mg base 4 "_law_a_power" ["deck", "most"] spAPower) :
    Def P w K mg base 5 "_law_number" ["deck", "most"] spNumber := by
  refine F.ok sc_law_number (fun vs H Q E h => ?_) (fun f cdv A outer s H vs Q E hr h => ?_)
  · obtain ⟨d, c, m, n, rfl, _⟩ := h
    rfl
  · obtain ⟨d, c, most, n, rfl, m0, m1, D, hn, q⟩ := h
    refine ⟨_, (pss_cons (ps_set (i := 2) sc_law_number.nd rfl (Or.inl rfl) (pe_op op_sub (pe_op op_add (pe_df D_law_a_power hr (by rfl) (pa_cons (pv 0) (pa_cons (pv 1) pa_nil))) (pe_df D_law_next hr (by rfl) (pa_cons (pv 0) (pa_cons pe_int pa_nil)))) pe_int))
      (pss_cons (ps_set (i := 3) sc_law_number.nd rfl (Or.inl rfl) (pe_lst (pa_cons (pe_df D_law_next hr (by rfl) (pa_cons (pv 0) (pa_cons pe_int pa_nil))) (pa_cons (pe_df D_law_great hr (by rfl) (pa_cons (pv 0) (pa_cons (pe_op op_add (pv 1) pe_int) pa_nil))) (pa_cons (pe_df D_law_a_power hr (by rfl) (pa_cons (pv 0) (pa_cons (pv 1) pa_nil))) (pa_cons (pv 2) (pa_cons (pe_op op_sub (pv 1) (pe_df D_law_next hr (by rfl) (pa_cons (pv 0) (pa_cons pe_int pa_nil)))) pa_nil)))))))
      (pss_one (ps_ret (pe_callB (cr_min2 rfl) (by rfl) B.min (by decide +kernel) (pa_cons (pv 1) (pa_cons (pe_callB (cr_max2 rfl) (by rfl) B.max (by decide +kernel) (pa_cons pe_int (pa_cons (pe_ix ix_list (pv 3) (pe_df D_law_next hr (by rfl) (pa_cons (pv 0) (pa_cons pe_int pa_nil))) (fun _ _ => rfl)) pa_nil))) pa_nil))))))), ?_⟩
    refine at_st [some (.ref d), some (.int most), none, none] rfl ?_
    walk_at "p0"
    refine ⟨_, _, _, _, rfl, m0, by omega, D, by omega, fun r1 H1 r10 r11 k1 D1 => ?_⟩
    walk_at "pw"
    refine ⟨_, _, _, _, rfl, by decide, by decide, D1, by omega, fun r2 H2 r20 r21 k2 D2 => ?_⟩
    walk_at "pw"
    refine ⟨_, _, _, _, rfl, by decide, by decide, D2, by omega, fun r3 H3 r30 r31 k3 D3 => ?_⟩
    walk_at "pw"
    refine ⟨_, _, _, _, rfl, by omega, D3, by omega, fun r4 H4 r40 r41 k4 D4 => ?_⟩
    walk_at "pw"
    refine ⟨_, _, _, _, rfl, by omega, by omega, D4, by omega, fun r5 H5 r50 r51 k5 D5 => ?_⟩
    walk_at "pw"
    refine ⟨_, _, _, _, rfl, by decide, by decide, D5, by omega, fun r6 H6 r60 r61 k6 D6 => ?_⟩
    walk_at "pw"
    refine newL (by simp) fun p1 H7 np1 hp1 s7 => ?_
    walk_at "pw"
    refine ⟨_, _, _, _, rfl, by decide, by decide, D6.same s7, by omega, fun r8 H8 r80 r81 k8 D8 => ?_⟩
    have hp8 := k8 _ _ (D6.ne np1) hp1
    walk_at "pw"
    obtain ⟨b, hb, hab⟩ := at_ints (ns := [r3, r4, r5, r1 + r2 - 2, most - r6]) r80 r81
    refine r_ixL (SqL.of hp8) hab ?_
    walk_at "pw"
    refine q _ _ (by omega) (by omega) (k1.trans (k2.trans (k3.trans (k4.trans (k5.trans (k6.trans ((Keep.of s7).trans k8))))))) (D8.mono (by omega))
end
end K03

namespace K03
open PySem PySem.Spec PyProof.Rows L2 Pw SX
section
variable {P : Program} {w : World} {K : PySem.W.Frag} {mg : Str → Option Value} {base : Heap}
theorem ok_taken (F : Pl K mg "taken" s_taken ["base", "exponent"]) (B : Bl mg) : Def P w K mg base 1 "taken" ["base", "exponent"] spTaken := by
  refine F.ok sc_taken (fun vs H Q E h => ?_) (fun f cdv A outer s H vs Q E hr h => ?_)
  · obtain ⟨c, k, a, rfl, _⟩ := h
    rfl
  · obtain ⟨b, e, a, rfl, hb, hae, he, q⟩ := h
    refine ⟨_, (pss_cons (ps_set (i := 2) sc_taken.nd rfl (Or.inl rfl) pe_int)
      (pss_cons (ps_for PassesOwn.never rfl (pi_revR (by rfl) B.reversed (prg_1 (by rfl) B.range (pe_bits (pv 1)))) (pg_name (i := 3) sc_taken.nd rfl (Or.inl rfl))
      (pss_cons (ps_set (i := 2) sc_taken.nd rfl (Or.inl rfl) (pe_op op_mulX (pv 2) (pv 2)))
      (pss_one (ps_if (pt_tru (pe_op op_oddN (pe_op op_shr (pv 1) (pv 3)) pe_int) (by intro _; rfl)) (pss_one (ps_set (i := 2) sc_taken.nd rfl (Or.inl rfl) (pe_op op_mulX (pv 2) (pv 0)))) pss_nil))))
      (pss_one (ps_ret (pv 2))))), ?_⟩
    refine at_st [some (.int b), some (.int e), none, none] rfl ?_
    walk_at "p0"
    have hL1 := bits_lt e
    have hL2 := bits_le he
    generalize Builtin.Int.intBits (e : Int) = L at *
    rw [show ((L : Int) - 0).toNat = L by omega]
    refine ⟨by decide, by decide, by omega, by omega, for_rangeC (fun i σ H' => ∃ (v : Option V), i ≤ L ∧ σ = [some (.int b), some (.int e), some (.int ((b ^ (e / 2 ^ (L - i)) : Nat) : Int)), v] ∧ H' = H) ⟨none, Nat.zero_le _, ?_, rfl⟩ ?_ ?_⟩
    · rw [Nat.sub_zero, Nat.div_eq_of_lt hL1]
      rfl
    · rintro i σ H1 hi ⟨v, _, rfl, rfl⟩
      obtain ⟨p, hp⟩ : ∃ p, L - i = p + 1 := ⟨L - i - 1, by omega⟩
      have hp' : L - (i + 1) = p := by omega
      have item : (0 : Int) + (L : Int) - 1 + (i : Int) * -1 = (p : Int) := by omega
      rw [item, hp]
      have le1 : e / 2 ^ (p + 1) ≤ e := Nat.div_le_self _ _
      walk_at "pw"
      refine r_I (mulx_pows hb hae le1 le1) ?_
      walk_at "pw"
      refine r_I (by omega) ?_
      walk_at "pw"
      have e1 : ((e : Int)) / 2 ^ ((p : Int)).toNat = ((e / 2 ^ p : Nat) : Int) := by
        rw [Int.toNat_natCast]
        exact_mod_cast rfl
      refine r_odd e1 ?_
      walk_at "pw"
      have pt := pow_at (b := b) (e := e) (p := p)
      have m2 : b ^ (e / 2 ^ (p + 1)) * b ^ (e / 2 ^ (p + 1)) ≤ 2 ^ (a * e) := by
        rw [← Nat.pow_add]
        refine Pm.pow_bound hb ?_
        have := Nat.div_mul_le_self e (2 ^ (p + 1))
        have h2 : e / 2 ^ (p + 1) = e / 2 ^ p / 2 := by rw [Nat.pow_succ, Nat.div_div_eq_div_mul]
        have h3 : e / 2 ^ p ≤ e := Nat.div_le_self _ _
        omega
      refine r_bne (fun h1 => ?_) (fun h1 => ?_)
      · have h1' : e / 2 ^ p % 2 = 1 := by omega
        rw [if_pos h1'] at pt
        walk_at "pw"
        have hb1 : b ≤ 2 ^ a := Nat.le_of_lt hb
        have a1 : a ≤ a * e ∨ e = 0 := by
          rcases Nat.eq_zero_or_pos e with z | z
          · exact .inr z
          · exact .inl (Nat.le_mul_of_pos_right _ z)
        have a1' : a ≤ a * e := by
          rcases a1 with z | z
          · exact z
          · rw [z, Nat.zero_div] at h1'
            exact absurd h1' (by decide)
        refine r_I ?_ ?_
        · have := mulx_nat (n := b ^ (e / 2 ^ (p + 1)) * b ^ (e / 2 ^ (p + 1))) (m := b) (a * e) (a * e) m2 (Nat.le_trans hb1 (Nat.pow_le_pow_right (by decide) a1')) (by omega)
          rw [Int.natCast_mul] at this
          exact this
        · refine ⟨some (.int p), by omega, ?_, rfl⟩
          rw [hp', pt]
          push_cast
          rfl
      · have h1' : ¬ e / 2 ^ p % 2 = 1 := by omega
        rw [if_neg h1'] at pt
        walk_at "pw"
        refine ⟨some (.int p), by omega, ?_, rfl⟩
        rw [hp', pt]
        push_cast
        rfl
    · rintro σ H1 ⟨v, _, rfl, rfl⟩
      walk_at "pw"
      rw [Nat.sub_self, Nat.pow_zero, Nat.div_one]
      exact q
end
end K03

namespace K03
open PySem PySem.Spec PyProof.Rows L2 Pw SX TL
abbrev s_NNi : Stmt := inClass (top 3) 0
abbrev s_NFi : Stmt := inClass (top 4) 0
theorem sc_NNi : FnScope ["self", "place"] ["self", "place"] (defScope s_NNi) := ⟨rfl, rfl, rfl, by decide +kernel, rfl, by decide +kernel, by decide +kernel⟩
theorem sc_NFi : FnScope ["self", "number"] ["self", "number"] (defScope s_NFi) := ⟨rfl, rfl, rfl, by decide +kernel, rfl, by decide +kernel, by decide +kernel⟩
section
variable {P : Program} {w : World} {K : PySem.W.Frag} {mg : Str → Option Value} {base : Heap}
theorem ok_NNi {f B : Addr} {fd : FuncData} {mc : Value} (F : Fun K "__init__" "NoNumber.__init__" s_NNi f fd) (gB : mg "PowerError" = some (.ref B)) (rB : ClX.CRead K B mc)
    (aB : PySem.W.findCls K (.ref B) mc "__init__" = some (.val (.builtin "ValueError.__init__"))) : FnOk P w K mg base CX0 1 f fd ["self", "place"] (spErr K "place") := by
  refine F.ok sc_NNi (fun vs H Q E h => ?_) (fun cdv A outer s H vs Q E hr h => ?_)
  · obtain ⟨a, C, i, rfl, _⟩ := h
    rfl
  · obtain ⟨a, C, i, rfl, T, hno, ha, hi, q⟩ := h
    refine ⟨_, pss_cons (ps_expr (pe_oinit (by rfl) gB rB aB (pa_cons (pv 0) (pa_cons (pe_joined (.cons pe_str (.cons (pe_fmt (pv 1)) .nil))) pa_nil)))) (pss_one (ps_ost (pv 0) (pv 1))), ?_⟩
    exact errInit T hno ha hi (by simp only [sizeLine_eq]; decide) q
theorem ok_NFi {f B : Addr} {fd : FuncData} {mc : Value} (F : Fun K "__init__" "NoFactor.__init__" s_NFi f fd) (gB : mg "PowerError" = some (.ref B)) (rB : ClX.CRead K B mc)
    (aB : PySem.W.findCls K (.ref B) mc "__init__" = some (.val (.builtin "ValueError.__init__"))) : FnOk P w K mg base CX0 1 f fd ["self", "number"] (spErr K "number") := by
  refine F.ok sc_NFi (fun vs H Q E h => ?_) (fun cdv A outer s H vs Q E hr h => ?_)
  · obtain ⟨a, C, i, rfl, _⟩ := h
    rfl
  · obtain ⟨a, C, i, rfl, T, hno, ha, hi, q⟩ := h
    refine ⟨_, pss_cons (ps_expr (pe_oinit (by rfl) gB rB aB (pa_cons (pv 0) (pa_cons (pe_joined (.cons pe_str (.cons (pe_fmt (pv 1)) .nil))) pa_nil)))) (pss_one (ps_ost (pv 0) (pv 1))), ?_⟩
    exact errInit T hno ha hi (by simp only [sizeLine_eq]; decide) q
end
end K03

namespace K03
open PySem PySem.Spec PyProof.Rows L2 Pw SX TL
section
variable {P : Program} {w : World} {K : PySem.W.Frag} {mg : Str → Option Value} {base : Heap}
theorem ok_worth (F : Pl K mg "_worth" s_worth ["figures"]) (B : Bl mg) : Def P w K mg base 1 "_worth" ["figures"] spWorth := by
  refine F.ok sc_worth (fun vs H Q E h => ?_) (fun f cdv A outer s H vs Q E hr h => ?_)
  · obtain ⟨l, rfl, _⟩ := h
    rfl
  · obtain ⟨l, rfl, hl, hd, q⟩ := h
    refine ⟨_, (pss_cons (ps_set (i := 1) sc_worth.nd rfl (Or.inl rfl) pe_int)
      (pss_cons (ps_for PassesOwn.never rfl (pi_str (pv 0)) (pg_name (i := 2) sc_worth.nd rfl (Or.inl rfl))
      (pss_one (ps_set (i := 1) sc_worth.nd rfl (Or.inl rfl) (pe_op op_add (pe_op op_mulX (pv 1) pe_int) (pe_callTy cr_intS (by rfl) B.int (by decide +kernel) (pa_cons (pv 2) pa_nil))))))
      (pss_one (ps_ret (pv 1))))), ?_⟩
    refine at_st [some (.str (S l)), none, none] rfl ?_
    walk_at "p0"
    refine for_str (fun i σ H' => ∃ v : Option V, i ≤ l.length ∧ σ = [some (.str (S l)), some (.int (NumText.digitsVal (l.take i) : Nat)), v] ∧ H' = H) ⟨none, Nat.zero_le _, rfl, rfl⟩ ?_ ?_
    · rintro i c σ H1 hc ⟨v, hi, rfl, rfl⟩
      obtain ⟨hi', hc'⟩ := List.getElem?_eq_some_iff.mp hc
      have hcm : c ∈ l := List.mem_of_getElem? hc
      have hcd := hd c hcm
      have hdt : NumText.AllDigits (l.take i) := fun d h => hd d (List.mem_of_mem_take h)
      have hv := digitsVal_lt hdt
      rw [List.length_take, Nat.min_eq_left (by omega)] at hv
      walk_at "pw"
      have hv2 : NumText.digitsVal (l.take i) < 2 ^ (4 * i) := by
        refine Nat.lt_of_lt_of_le hv ?_
        rw [Nat.pow_mul]
        exact Nat.pow_le_pow_left (by decide) i
      refine r_I (mulx_nat (m := 10) (4 * i) 4 (Nat.le_of_lt hv2) (by decide) (by omega)) ?_
      walk_at "pw"
      refine r_intS (by simp; omega) (by simp) (by simp) ?_
      walk_at "pw"
      refine ⟨some (.str (S [c])), hi', ?_, rfl⟩
      have e1 : l.take (i + 1) = l.take i ++ [c] := by
        rw [List.take_add_one, hc]
        rfl
      rw [e1, digitsVal_snoc]
      have e2 : NumText.digitsVal [c] = c - 48 := by
        show 0 * 10 + (c - 48) = c - 48
        omega
      rw [e2]
      push_cast
      rfl
    · rintro σ H1 ⟨v, _, rfl, rfl⟩
      walk_at "pw"
      rw [List.take_length]
      exact q
theorem ok_figures_end {C : Addr} (F : Pl K mg "_figures_end" s_figures_end ["text", "start"]) (B : Bl mg) {t1 : Tok} (M_FIGURES : mg "FIGURES" = some (.str "0123456789" t1)) (T_NoNumber : ErrI P w K mg base "NoNumber" C "place") :
    DefX P w K mg base 3 "_figures_end" ["text", "start"] (spFigX C) := by
  refine F.okX sc_figures_end (fun vs H Q E h => ?_) (fun f cdv A outer s H vs Q E hr h => ?_)
  · obtain ⟨l, s, rfl, _⟩ := h
    rfl
  · obtain ⟨l, st, rfl, hl, hs, hbad, hok⟩ := h
    refine ⟨_, (pss_cons (ps_set (i := 2) sc_figures_end.nd rfl (Or.inl rfl) (pv 1))
      (pss_cons (ps_nox (ps_while PassesOwn.never (PW.pt (pw_and (pt_cmpR op_lt (pv 2) (pe_callB cr_lenT (by rfl) B.len PySem.boot_len (pa_cons (pv 0) pa_nil)) (nomark _)) (pw_and1 (pt_cmpR op_inSign (pe_ix ix_str (pv 0) (pv 2) (fun _ _ => rfl)) (pe_globS (by rfl) M_FIGURES) rfl)))) (pss_one (ps_aug (i := 2) sc_figures_end.nd rfl (Or.inl rfl) pe_int ip_add))))
      (pss_cons (ps_if (pt_cmpR op_eq (pv 2) (pv 1) (nomark _)) (pss_one (ps_raise rfl (takes_of rfl rfl rfl rfl) (pmk_err T_NoNumber hr (by rfl) (pa_cons (pv 1) pa_nil)))) pss_nil)
      (pss_cons (ps_if (PW.pt (pw_and (pt_cmpR op_eq (pe_ix ix_str (pv 0) (pv 1) (fun _ _ => rfl)) pe_str (nomark _)) (pw_and1 (pt_cmpR op_gt (pv 2) (pe_op op_add (pv 1) pe_int) (nomark _))))) (pss_one (ps_raise rfl (takes_of rfl rfl rfl rfl) (pmk_err T_NoNumber hr (by rfl) (pa_cons (pv 1) pa_nil)))) pss_nil)
      (pss_one (ps_ret (pv 2))))))), ?_⟩
    refine at_st [some (.str (S l)), some (.int st), none] rfl ?_
    walk_at "p0"
    have hle := runEnd_le hs
    refine r_whl (fun σ H' => ∃ k : Nat, σ = [some (.str (S l)), some (.int st), some (.int k)] ∧ st ≤ k ∧ k ≤ runEnd l st ∧ H' = H) (fun σ _ => match σ with | [_, _, some (.int k)] => (runEnd l st - k.toNat) | _ => 0) ⟨st, rfl, Nat.le_refl _, by unfold runEnd; omega, rfl⟩ ?_
    rintro σ H1 ⟨k, rfl, k0, k1, rfl⟩
    walk_at "pw"
    refine r_lenSS (by omega) ?_
    walk_at "pw"
    refine r_ite (fun hk => ?_) (fun hk => ?_)
    · walk_at "pw"
      have hk' : k < l.length := by omega
      refine r_ixS (c := l[k]) (by omega) (atI_nat (List.getElem?_eq_getElem hk')) ?_
      walk_at "pw"
      refine r_ite (fun hf => ?_) (fun hf => ?_)
      · have hd := mem_figs.mp hf
        have kl : k < runEnd l st := by
          refine Nat.lt_of_le_of_ne k1 fun e => ?_
          have := run_out (l := l) (s := st) (c := l[k]) (by rw [← e]; exact List.getElem?_eq_getElem hk')
          rw [hd] at this
          cases this
        refine whileGo fun N hN => ?_
        walk_at "pw"
        refine hN _ _ ⟨k + 1, by push_cast; rfl, by omega, kl, rfl⟩ ?_
        show runEnd l st - ((k : Int) + 1).toNat < runEnd l st - ((k : Nat) : Int).toNat
        omega
      · have hke : k = runEnd l st := by
          rcases Nat.lt_or_ge k (runEnd l st) with z | z
          · obtain ⟨c, hc, hd⟩ := run_in k0 z
            rw [List.getElem?_eq_getElem hk'] at hc
            cases hc
            exact absurd (mem_figs.mpr hd) hf
          · omega
        subst hke
        walk_at "pw"
        refine r_iteI (fun e => ?_) (fun e => ?_)
        · exact ⟨_, rfl, mkErr_in T_NoNumber.1.o T_NoNumber.1.no (log_small (by omega)) fun d hd => hbad (bad_iff.mpr (.inl (by omega))) d hd⟩
        · walk_at "pw"
          have hs1 : st < l.length := by omega
          refine r_ixS (c := l[st]) (by omega) (atI_nat (List.getElem?_eq_getElem hs1)) ?_
          walk_at "pw"
          refine r_iteS (fun e0 => ?_) (fun e0 => ?_)
          · walk_at "pw"
            have e48 : l[st]? = some 48 := by rw [List.getElem?_eq_getElem hs1]; exact congrArg some (List.head_eq_of_cons_eq e0)
            refine r_ite (fun e1 => ?_) (fun e1 => ?_)
            · exact ⟨_, rfl, mkErr_in T_NoNumber.1.o T_NoNumber.1.no (log_small (by omega)) fun d hd => hbad (bad_iff.mpr (.inr ⟨e48, by omega⟩)) d hd⟩
            · walk_at "pw"
              exact hok (bad_no (by omega) fun z => by omega)
          · walk_at "pw"
            refine hok (bad_no (by omega) fun z => ?_)
            rw [List.getElem?_eq_getElem hs1] at z
            exact e0 (congrArg (fun c => [c]) (Option.some.inj z.1))
    · have hke : k = runEnd l st := by omega
      subst hke
      walk_at "pw"
      refine r_iteI (fun e => ?_) (fun e => ?_)
      · exact ⟨_, rfl, mkErr_in T_NoNumber.1.o T_NoNumber.1.no (log_small (by omega)) fun d hd => hbad (bad_iff.mpr (.inl (by omega))) d hd⟩
      · walk_at "pw"
        have hs1 : st < l.length := by omega
        refine r_ixS (c := l[st]) (by omega) (atI_nat (List.getElem?_eq_getElem hs1)) ?_
        walk_at "pw"
        refine r_iteS (fun e0 => ?_) (fun e0 => ?_)
        · walk_at "pw"
          have e48 : l[st]? = some 48 := by rw [List.getElem?_eq_getElem hs1]; exact congrArg some (List.head_eq_of_cons_eq e0)
          refine r_ite (fun e1 => ?_) (fun e1 => ?_)
          · exact ⟨_, rfl, mkErr_in T_NoNumber.1.o T_NoNumber.1.no (log_small (by omega)) fun d hd => hbad (bad_iff.mpr (.inr ⟨e48, by omega⟩)) d hd⟩
          · walk_at "pw"
            exact hok (bad_no (by omega) fun z => by omega)
        · walk_at "pw"
          refine hok (bad_no (by omega) fun z => ?_)
          rw [List.getElem?_eq_getElem hs1] at z
          exact e0 (congrArg (fun c => [c]) (Option.some.inj z.1))
theorem ok_read_number {C : Addr} (F : Pl K mg "read_number" s_read_number ["text"]) (B : Bl mg) {t1 : Tok} (M_MOST_EXPONENT : mg "MOST_EXPONENT" = some (.int 200 t1)) (T_NoNumber : ErrI P w K mg base "NoNumber" C "place")
    (D_figures_end : DefX P w K mg base 3 "_figures_end" ["text", "start"] (spFigX C)) (D_worth : Def P w K mg base 1 "_worth" ["figures"] spWorth) (D_taken : Def P w K mg base 1 "taken" ["base", "exponent"] spTaken) :
    DefX P w K mg base 4 "read_number" ["text"] (spReadX C) := by
  refine F.okX sc_read_number (fun vs H Q E h => ?_) (fun f cdv A outer s H vs Q E hr h => ?_)
  · obtain ⟨l, rfl, _⟩ := h
    rfl
  · obtain ⟨l, rfl, hl, hbad, hok⟩ := h
    refine ⟨_, (pss_cons (ps_set (i := 1) sc_read_number.nd rfl (Or.inl rfl) (pe_dfS D_figures_end hr (takes_of rfl rfl rfl rfl) (by rfl) (pa_cons (pv 0) (pa_cons pe_int pa_nil))))
      (pss_cons (ps_if (pt_cmpR op_eq (pv 1) (pe_callB cr_lenT (by rfl) B.len PySem.boot_len (pa_cons (pv 0) pa_nil)) (nomark _)) (pss_one (ps_ret (pe_df D_worth hr (by rfl) (pa_cons (pv 0) pa_nil)))) pss_nil)
      (pss_cons (ps_if (pt_cmpR op_ne (pe_ix ix_str (pv 0) (pv 1) (fun _ _ => rfl)) pe_str (nomark _)) (pss_one (ps_raise rfl (takes_of rfl rfl rfl rfl) (pmk_err T_NoNumber hr (by rfl) (pa_cons (pv 1) pa_nil)))) pss_nil)
      (pss_cons (ps_set (i := 2) sc_read_number.nd rfl (Or.inl rfl) (pe_op op_add (pv 1) pe_int))
      (pss_cons (ps_set (i := 3) sc_read_number.nd rfl (Or.inl rfl) (pe_dfS D_figures_end hr (takes_of rfl rfl rfl rfl) (by rfl) (pa_cons (pv 0) (pa_cons (pv 2) pa_nil))))
      (pss_cons (ps_if (pt_cmpR op_lt (pv 3) (pe_callB cr_lenT (by rfl) B.len PySem.boot_len (pa_cons (pv 0) pa_nil)) (nomark _)) (pss_one (ps_raise rfl (takes_of rfl rfl rfl rfl) (pmk_err T_NoNumber hr (by rfl) (pa_cons (pv 3) pa_nil)))) pss_nil)
      (pss_cons (ps_set (i := 4) sc_read_number.nd rfl (Or.inl rfl) (pe_df D_worth hr (by rfl) (pa_cons (pe_slice sl_str (pv 0) (po_some (pv 2)) po_none) pa_nil)))
      (pss_cons (ps_if (pt_cmpR op_gt (pv 4) (pe_globI (by rfl) M_MOST_EXPONENT) (nomark _)) (pss_one (ps_raise rfl (takes_of rfl rfl rfl rfl) (pmk_err T_NoNumber hr (by rfl) (pa_cons (pv 2) pa_nil)))) pss_nil)
      (pss_one (ps_ret (pe_df D_taken hr (by rfl) (pa_cons (pe_df D_worth hr (by rfl) (pa_cons (pe_slice sl_str (pv 0) po_none (po_some (pv 1))) pa_nil)) (pa_cons (pv 4) pa_nil))))))))))))), ?_⟩
    refine at_st [some (.str (S l)), none, none, none, none] rfl ?_
    have hle := runEnd_le (l := l) (s := 0) (Nat.zero_le _)
    walk_at "p0"
    have raised : ∀ (k : Nat), dueOf l = .inr k → k ≤ 1001 → ∀ (H1 : Hp), H1 = H → ([V.int (k : Int)] : List V).length ≤ 1000 ∧ ∀ a, H1 a = none → spErr K "place" (V.ref a :: ([V.int (k : Int)] ++ [])) (upd H1 a (exo a C none))
        (fun v H2 => v = .non ∧ ∃ (d : Addr) (fs : List (Str × V)), H2 a = some (exo a C (some d)) ∧ H2 d = some (exd d fs) ∧ H1 d = none ∧ E (.ref C) (some d) (upd (del H2 a) d (.xd fs))) (fun _ _ _ => False) := by
      rintro k hk hb H1 rfl
      exact mkErr_in T_NoNumber.1.o T_NoNumber.1.no (log_small hb) fun d hd => hbad k hk d hd
    refine r_callS ?_
    walk_at "pw"
    by_cases b0 : bad l 0 = true
    · refine ⟨l, 0, rfl, hl, Nat.zero_le _, fun _ d hd => ?_, fun z => absurd z (by rw [b0]; decide)⟩
      exact hbad 0 (by unfold dueOf; rw [if_pos b0]) d hd
    refine ⟨l, 0, rfl, hl, Nat.zero_le _, fun z => absurd z b0, fun _ => ?_⟩
    walk_at "pw"
    refine r_lenSS (by omega) ?_
    walk_at "pw"
    refine r_iteI (fun e1 => ?_) (fun e1 => ?_)
    · walk_at "pw"
      have e1' : runEnd l 0 = l.length := by omega
      have ad : NumText.AllDigits l := by
        have := digs_drop e1'
        rwa [List.drop_zero] at this
      refine ⟨l, rfl, by omega, ad, ?_⟩
      exact hok _ (by unfold dueOf; rw [if_neg b0, if_pos e1'])
    walk_at "pw"
    have e1' : runEnd l 0 ≠ l.length := by omega
    have hb1 : runEnd l 0 < l.length := by omega
    refine r_ixS (c := l[runEnd l 0]) (by omega) (atI_nat (List.getElem?_eq_getElem hb1)) ?_
    walk_at "pw"
    refine r_iteNS (fun e2 => ?_) (fun e2 => ?_)
    · have n2 : l[runEnd l 0]? ≠ some 94 := by
        rw [List.getElem?_eq_getElem hb1]
        intro z
        exact e2 (congrArg (fun c => [c]) (Option.some.inj z))
      exact ⟨_, rfl, raised _ (by unfold dueOf; rw [if_neg b0, if_neg e1', if_pos n2]) (by omega) _ rfl⟩
    have n2 : ¬ l[runEnd l 0]? ≠ some 94 := by
      rw [List.getElem?_eq_getElem hb1]
      exact fun z => z (congrArg some (List.head_eq_of_cons_eq e2))
    walk_at "pw"
    refine r_callS ?_
    walk_at "pw"
    by_cases b3 : bad l (runEnd l 0 + 1) = true
    · refine ⟨l, runEnd l 0 + 1, rfl, hl, by omega, fun _ d hd => ?_, fun z => absurd z (by rw [b3]; decide)⟩
      exact hbad (runEnd l 0 + 1) (by unfold dueOf; rw [if_neg b0, if_neg e1', if_neg n2, if_pos b3]) d hd
    refine ⟨l, runEnd l 0 + 1, rfl, hl, by omega, fun z => absurd z b3, fun _ => ?_⟩
    have hle2 := runEnd_le (l := l) (s := runEnd l 0 + 1) (by omega)
    walk_at "pw"
    refine r_lenSS (by omega) ?_
    walk_at "pw"
    refine r_ite (fun e4 => ?_) (fun e4 => ?_)
    · exact ⟨_, rfl, raised _ (by unfold dueOf; rw [if_neg b0, if_neg e1', if_neg n2, if_neg b3, if_pos (by omega)]) (by omega) _ rfl⟩
    walk_at "pw"
    refine r_slS_from (k := runEnd l 0 + 1) (by omega) ?_
    walk_at "pw"
    have n4 : ¬ runEnd l (runEnd l 0 + 1) < l.length := by omega
    refine ⟨l.drop (runEnd l 0 + 1), rfl, by rw [List.length_drop]; omega, digs_drop (by omega), ?_⟩
    walk_at "pw"
    refine r_ite (fun e5 => ?_) (fun e5 => ?_)
    · exact ⟨_, rfl, raised (runEnd l 0 + 1) (by unfold dueOf; rw [if_neg b0, if_neg e1', if_neg n2, if_neg b3, if_neg n4, if_pos (by omega)]) (by omega) _ rfl⟩
    walk_at "pw"
    refine r_slS_to (k := runEnd l 0) (by omega) ?_
    walk_at "pw"
    refine ⟨l.take (runEnd l 0), rfl, by rw [List.length_take]; omega, digs_take, ?_⟩
    walk_at "pw"
    refine ⟨_, _, 4000, rfl, Nat.lt_of_lt_of_le (digs_bits digs_take) (Nat.pow_le_pow_right (by decide) (by rw [List.length_take]; omega)), by omega, Nat.lt_of_le_of_lt (show _ ≤ 200 by omega) (by decide), ?_⟩
    exact hok _ (by unfold dueOf; rw [if_neg b0, if_neg e1', if_neg n2, if_neg b3, if_neg n4, if_neg (by omega)])
end
end K03

namespace K03
open PySem PySem.Spec PyProof.Rows L2 Pw SX TL
section
variable {P : Program} {w : World} {K : PySem.W.Frag} {mg : Str → Option Value} {base : Heap}
theorem ok_law_kind {CA CF CN CP : Addr} (F : Pl K mg "_law_kind" s_law_kind ["caught"]) (B : Bl mg) (M_ValueError : mg "ValueError" = none) (M_NoAsk : mg "NoAsk" = some (.ref CA)) (M_NoFactor : mg "NoFactor" = some (.ref CF)) (M_NoNumber : mg "NoNumber" = some (.ref CN)) (M_PowerError : mg "PowerError" = some (.ref CP))
    (G : KindF K CA CF CN CP) (TN : ErrC K mg "NoNumber" CN "place") (TF : ErrC K mg "NoFactor" CF "number") : Def P w K mg base 1 "_law_kind" ["caught"] (spKind CF CN) := by
  refine F.ok sc_law_kind (fun vs H Q E h => ?_) (fun f cdv A outer s H vs Q E hr h => ?_)
  · obtain ⟨x, dd, i, rfl, _⟩ := h
    rfl
  · obtain ⟨x, dd, i, rfl, h⟩ := h
    refine ⟨_, (pss_cons (ps_set (i := 1) sc_law_kind.nd rfl (Or.inl rfl) (pe_lst (pa_cons (pe_callB call_isX (by rfl) B.isinstance (by decide +kernel) (pa_cons (pv 0) (pa_cons (pe_globC (by rfl) M_NoAsk) pa_nil))) (pa_cons (pe_callB call_isX (by rfl) B.isinstance (by decide +kernel) (pa_cons (pv 0) (pa_cons (pe_globC (by rfl) M_NoFactor) pa_nil))) (pa_cons (pe_callB call_isX (by rfl) B.isinstance (by decide +kernel) (pa_cons (pv 0) (pa_cons (pe_globC (by rfl) M_NoNumber) pa_nil))) pa_nil)))))
      (pss_cons (ps_if (PW.pt (pw_or (pt_not (pt_val (pe_callB call_isX (by rfl) B.isinstance (by decide +kernel) (pa_cons (pv 0) (pa_cons (pe_globC (by rfl) M_PowerError) pa_nil))))) (pw_or (pt_not (pt_val (pe_callB call_isX (by rfl) B.isinstance (by decide +kernel) (pa_cons (pv 0) (pa_cons (pe_bltn (v := .ty "ValueError") (by rfl) M_ValueError (by decide +kernel) rfl) pa_nil))))) (pw_or1 (pt_cmpR op_ne (pe_bm PySem.F.plainAttrs_list PySem.F.slot_list_count PySem.F.type_list_count mt_lcountT (pv 1) (pa_cons pe_bl pa_nil)) pe_int (nomark _)))))) (pss_one (ps_ret (pe_tup (pa_cons pe_str pa_nil)))) pss_nil)
      (pss_cons (ps_if (pt_val (pe_ix ix_list (pv 1) pe_int (fun _ _ => rfl))) (pss_one (ps_ret (pe_tup (pa_cons pe_str pa_nil)))) pss_nil)
      (pss_cons (ps_if (pt_val (pe_ix ix_list (pv 1) pe_int (fun _ _ => rfl))) (pss_one (ps_ret (pe_ix ix_list (pe_lst (pa_cons (pe_tup (pa_cons pe_str (pa_cons (pe_erf (pv 0)) pa_nil))) (pa_cons (pe_tup (pa_cons pe_str pa_nil)) pa_nil))) (pe_callTy call_int1 (by rfl) B.int (by decide +kernel) (pa_cons (pe_callB call_isX (by rfl) B.isinstance (by decide +kernel) (pa_cons (pe_erf (pv 0)) (pa_cons (pe_bltn (v := .ty "bool") (by rfl) B.bool (by decide +kernel) rfl) pa_nil))) pa_nil)) (fun _ _ => rfl)))) pss_nil)
      (pss_one (ps_ret (pe_ix ix_list (pe_lst (pa_cons (pe_tup (pa_cons pe_str (pa_cons (pe_erf (pv 0)) pa_nil))) (pa_cons (pe_tup (pa_cons pe_str pa_nil)) pa_nil))) (pe_callTy call_int1 (by rfl) B.int (by decide +kernel) (pa_cons (pe_callB call_isX (by rfl) B.isinstance (by decide +kernel) (pa_cons (pe_erf (pv 0)) (pa_cons (pe_bltn (v := .ty "bool") (by rfl) B.bool (by decide +kernel) rfl) pa_nil))) pa_nil)) (fun _ _ => rfl)))))))), ?_⟩
    refine at_st [some x, none] rfl ?_
    rcases h with ⟨e, hd, q⟩ | ⟨e, hd, q⟩
    · walk_at "p0"
      refine r_isX e TN.i (.own CA) G.na ?_
      walk_at "pw"
      refine r_isX e TN.i (.own CF) G.nf ?_
      walk_at "pw"
      refine r_isX e TN.i (.own CN) G.nn ?_
      walk_at "pw"
      refine newL (by decide) fun p H1 _ hp s1 => ?_
      have e1 := e.same s1
      have hd1 := s1 _ _ hd
      have hL : SqL K H1 p ([false, false, true].map V.bl) := .of hp
      walk_at "pw"
      refine r_isX e1 TN.i (.own CP) G.np ?_
      walk_at "pw"
      refine r_isX e1 TN.i (.ty "ValueError") G.nv ?_
      walk_at "pw"
      refine ⟨.inl ⟨rfl, _, hL⟩, ?_⟩
      walk_at "pw"
      refine r_cntT hL ?_
      walk_at "pw"
      refine r_iteN (fun z => absurd rfl z) (fun _ => ?_)
      walk_at "pw"
      refine r_erf ?_
      walk_at "pw"
      refine ⟨CN, dd, _, .int i, e1, hd1, rfl, TN.x, TN.no, ?_⟩
      walk_at "pw"
      refine newT (by simp) fun p1 H2 _ hp1 s2 => ?_
      walk_at "pw"
      refine newT (by decide) fun p2 H3 _ hp2 s3 => ?_
      walk_at "pw"
      refine newL (by simp) fun p3 H4 _ hp3 s4 => ?_
      have s24 := s2.trans (s3.trans s4)
      walk_at "pw"
      refine r_erf ?_
      walk_at "pw"
      refine ⟨CN, dd, _, .int i, e1.same s24, s24 _ _ hd1, rfl, TN.x, TN.no, ?_⟩
      walk_at "pw"
      refine r_isXI ?_
      walk_at "pw"
      refine .inr ⟨false, rfl, ?_⟩
      refine r_ixL (i := 0) (SqL.of hp3) rfl ?_
      exact q p1 H4 (s1.trans s24) (s4 _ _ (s3 _ _ hp1))
    · walk_at "p0"
      refine r_isX e TF.i (.own CA) G.fa ?_
      walk_at "pw"
      refine r_isX e TF.i (.own CF) G.ff ?_
      walk_at "pw"
      refine r_isX e TF.i (.own CN) G.fn ?_
      walk_at "pw"
      refine newL (by decide) fun p H1 _ hp s1 => ?_
      have e1 := e.same s1
      have hd1 := s1 _ _ hd
      have hL : SqL K H1 p ([false, true, false].map V.bl) := .of hp
      walk_at "pw"
      refine r_isX e1 TF.i (.own CP) G.fp ?_
      walk_at "pw"
      refine r_isX e1 TF.i (.ty "ValueError") G.fv ?_
      walk_at "pw"
      refine ⟨.inl ⟨rfl, _, hL⟩, ?_⟩
      walk_at "pw"
      refine r_cntT hL ?_
      walk_at "pw"
      refine r_iteN (fun z => absurd rfl z) (fun _ => ?_)
      walk_at "pw"
      refine r_erf ?_
      walk_at "pw"
      refine ⟨CF, dd, _, .int i, e1, hd1, rfl, TF.x, TF.no, ?_⟩
      walk_at "pw"
      refine newT (by simp) fun p1 H2 _ hp1 s2 => ?_
      walk_at "pw"
      refine newT (by decide) fun p2 H3 _ hp2 s3 => ?_
      walk_at "pw"
      refine newL (by simp) fun p3 H4 _ hp3 s4 => ?_
      have s24 := s2.trans (s3.trans s4)
      walk_at "pw"
      refine r_erf ?_
      walk_at "pw"
      refine ⟨CF, dd, _, .int i, e1.same s24, s24 _ _ hd1, rfl, TF.x, TF.no, ?_⟩
      walk_at "pw"
      refine r_isXI ?_
      walk_at "pw"
      refine .inr ⟨false, rfl, ?_⟩
      refine r_ixL (i := 0) (SqL.of hp3) rfl ?_
      exact q p1 H4 (s1.trans s24) (s4 _ _ (s3 _ _ hp1))
end
end K03

namespace K03
open PySem PySem.Spec PyProof.Rows L2 Pw SX
section
variable {P : Program} {w : World} {K : PySem.W.Frag} {mg : Str → Option Value} {base : Heap}
theorem ok_law_taken (F : Pl K mg "_law_taken" s_law_taken ["base", "exponent"]) (B : Bl mg) : Def P w K mg base 1 "_law_taken" ["base", "exponent"] spTakenL := by
  refine F.ok sc_law_taken (fun vs H Q E h => ?_) (fun f cdv A outer s H vs Q E hr h => ?_)
  · obtain ⟨c, k, a, rfl, _⟩ := h
    rfl
  · obtain ⟨b, e, a, rfl, hb, hae, he, q⟩ := h
    refine ⟨_, (pss_cons (ps_set (i := 2) sc_law_taken.nd rfl (Or.inl rfl) pe_int)
      (pss_cons (ps_for PassesOwn.never rfl (pi_range1 (by rfl) B.range (pa_cons (pv 1) pa_nil)) (pg_name (i := 3) sc_law_taken.nd rfl (Or.inl rfl))
      (pss_one (ps_set (i := 2) sc_law_taken.nd rfl (Or.inl rfl) (pe_op op_mulX (pv 2) (pv 0)))))
      (pss_one (ps_ret (pv 2))))), ?_⟩
    refine at_st [some (.int b), some (.int e), none, none] rfl ?_
    walk_at "p0"
    refine ⟨by omega, by omega, for_range (fun i σ H' => ∃ (v : Option V), σ = [some (.int b), some (.int e), some (.int ((b ^ i : Nat) : Int)), v] ∧ H' = H) ⟨none, rfl, rfl⟩ ?_ ?_⟩
    · rintro i σ H1 hi ⟨v, rfl, rfl⟩
      have hi' : i < e := by omega
      have ha : a ≤ a * e := Nat.le_mul_of_pos_right _ (by omega)
      walk_at "pw"
      refine r_I (mulx_nat (a * e) (a * e) (Pm.pow_bound hb (by omega)) (Nat.le_trans (Nat.le_of_lt hb) (Nat.pow_le_pow_right (by decide) ha)) (by omega)) ?_
      refine ⟨some (.int ((i : Nat) : Int)), ?_, rfl⟩
      rw [Nat.pow_succ]
      push_cast
      rw [Int.zero_add]
      rfl
    · rintro σ H1 ⟨v, rfl, rfl⟩
      walk_at "pw"
      rw [Int.toNat_natCast]
      exact q
end
end K03

namespace K03
open PySem PySem.Spec PyProof.Rows L2 Pw SX TL
section
variable {P : Program} {w : World} {K : PySem.W.Frag} {mg : Str → Option Value} {base : Heap}
theorem ok_law_run (F : Pl K mg "_law_run" s_law_run ["text", "first"]) (B : Bl mg) : Def P w K mg base 1 "_law_run" ["text", "first"] spRun := by
  refine F.ok sc_law_run (fun vs H Q E h => ?_) (fun f cdv A outer s H vs Q E hr h => ?_)
  · obtain ⟨l, s, rfl, _⟩ := h
    rfl
  · obtain ⟨l, st, rfl, hl, hs, q⟩ := h
    refine ⟨_, (pss_cons (ps_set (i := 2) sc_law_run.nd rfl (Or.inl rfl) (pv 1))
      (pss_cons (ps_while PassesOwn.never (PW.pt (pw_and (pt_cmpR op_lt (pv 2) (pe_callB cr_lenT (by rfl) B.len PySem.boot_len (pa_cons (pv 0) pa_nil)) (nomark _)) (pw_and1 (pt_cmpR op_ge (pe_m1 PySem.F.slot_str_find PySem.F.type_str_find mt_findN pe_str (pe_ix ix_str (pv 0) (pv 2) (fun _ _ => rfl))) pe_int (nomark _))))) (pss_one (ps_set (i := 2) sc_law_run.nd rfl (Or.inl rfl) (pe_op op_add (pv 2) pe_int))))
      (pss_cons (ps_if (PW.pt (pw_or (pt_cmpR op_eq (pv 2) (pv 1) (nomark _)) (pw_or1 (PW.pt (pw_and (pt_cmpR op_eq (pe_ix ix_str (pv 0) (pv 1) (fun _ _ => rfl)) pe_str (nomark _)) (pw_and1 (pt_cmpR op_gt (pv 2) (pe_op op_add (pv 1) pe_int) (nomark _)))))))) (pss_one (ps_ret (pe_tup (pa_cons (pv 2) (pa_cons (pv 1) pa_nil))))) pss_nil)
      (pss_one (ps_ret (pe_tup (pa_cons (pv 2) (pa_cons pe_non pa_nil)))))))), ?_⟩
    refine at_st [some (.str (S l)), some (.int st), none] rfl ?_
    walk_at "p0"
    have hle := runEnd_le hs
    have good : ∀ (p : Addr) (H' : Hp), bad l st = false → H' p = some (.tup [.int (runEnd l st : Nat), .non]) → Same H H' → Q (.ref p) H' := fun p H' hb hp sm => q p H' sm (by rw [hp]; unfold vbad; rw [hb]; rfl)
    have evil : ∀ (p : Addr) (H' : Hp), bad l st = true → H' p = some (.tup [.int (runEnd l st : Nat), .int (st : Int)]) → Same H H' → Q (.ref p) H' := fun p H' hb hp sm => q p H' sm (by rw [hp]; unfold vbad; rw [hb]; rfl)
    refine r_whl (fun σ H' => ∃ k : Nat, σ = [some (.str (S l)), some (.int st), some (.int k)] ∧ st ≤ k ∧ k ≤ runEnd l st ∧ H' = H) (fun σ _ => match σ with | [_, _, some (.int k)] => (runEnd l st - k.toNat) | _ => 0) ⟨st, rfl, Nat.le_refl _, by unfold runEnd; omega, rfl⟩ ?_
    rintro σ H1 ⟨k, rfl, k0, k1, rfl⟩
    walk_at "pw"
    refine r_lenSS (by omega) ?_
    walk_at "pw"
    refine r_ite (fun hk => ?_) (fun hk => ?_)
    · walk_at "pw"
      have hk' : k < l.length := by omega
      refine r_ixS (c := l[k]) (by omega) (atI_nat (List.getElem?_eq_getElem hk')) ?_
      walk_at "pw"
      refine r_find ?_
      walk_at "pw"
      rw [find_fig2]
      cases hd : dgt l[k] with
      | true =>
        have kl : k < runEnd l st := by
          refine Nat.lt_of_le_of_ne k1 fun e => ?_
          have := run_out (l := l) (s := st) (c := l[k]) (by rw [← e]; exact List.getElem?_eq_getElem hk')
          rw [hd] at this
          cases this
        refine iteT ?_
        refine whileGo fun N hN => ?_
        walk_at "pw"
        refine hN _ _ ⟨k + 1, by push_cast; rfl, by omega, kl, rfl⟩ ?_
        show runEnd l st - ((k : Int) + 1).toNat < runEnd l st - ((k : Nat) : Int).toNat
        omega
      | false =>
        have hke : k = runEnd l st := by
          rcases Nat.lt_or_ge k (runEnd l st) with z | z
          · obtain ⟨c, hc, hd2⟩ := run_in k0 z
            rw [List.getElem?_eq_getElem hk'] at hc
            cases hc
            rw [hd] at hd2
            cases hd2
          · omega
        subst hke
        refine iteF ?_
        walk_at "pw"
        refine r_iteI (fun e => ?_) (fun e => ?_)
        · walk_at "pw"
          exact newT (by simp) fun p H2 _ hp s2 => evil p H2 (bad_iff.mpr (.inl (by omega))) hp s2
        · walk_at "pw"
          have hs1 : st < l.length := by omega
          refine r_ixS (c := l[st]) (by omega) (atI_nat (List.getElem?_eq_getElem hs1)) ?_
          walk_at "pw"
          refine r_iteS (fun e0 => ?_) (fun e0 => ?_)
          · walk_at "pw"
            have e48 : l[st]? = some 48 := by rw [List.getElem?_eq_getElem hs1]; exact congrArg some (List.head_eq_of_cons_eq e0)
            refine r_ite (fun e1 => ?_) (fun e1 => ?_)
            · walk_at "pw"
              exact newT (by simp) fun p H2 _ hp s2 => evil p H2 (bad_iff.mpr (.inr ⟨e48, by omega⟩)) hp s2
            · walk_at "pw"
              exact newT (by simp) fun p H2 _ hp s2 => good p H2 (bad_no (by omega) fun z => by omega) hp s2
          · walk_at "pw"
            refine newT (by simp) fun p H2 _ hp s2 => good p H2 (bad_no (by omega) fun z => ?_) hp s2
            rw [List.getElem?_eq_getElem hs1] at z
            exact e0 (congrArg (fun c => [c]) (Option.some.inj z.1))
    · have hke : k = runEnd l st := by omega
      subst hke
      walk_at "pw"
      refine r_iteI (fun e => ?_) (fun e => ?_)
      · walk_at "pw"
        exact newT (by simp) fun p H2 _ hp s2 => evil p H2 (bad_iff.mpr (.inl (by omega))) hp s2
      · walk_at "pw"
        have hs1 : st < l.length := by omega
        refine r_ixS (c := l[st]) (by omega) (atI_nat (List.getElem?_eq_getElem hs1)) ?_
        walk_at "pw"
        refine r_iteS (fun e0 => ?_) (fun e0 => ?_)
        · walk_at "pw"
          have e48 : l[st]? = some 48 := by rw [List.getElem?_eq_getElem hs1]; exact congrArg some (List.head_eq_of_cons_eq e0)
          refine r_ite (fun e1 => ?_) (fun e1 => ?_)
          · walk_at "pw"
            exact newT (by simp) fun p H2 _ hp s2 => evil p H2 (bad_iff.mpr (.inr ⟨e48, by omega⟩)) hp s2
          · walk_at "pw"
            exact newT (by simp) fun p H2 _ hp s2 => good p H2 (bad_no (by omega) fun z => by omega) hp s2
        · walk_at "pw"
          refine newT (by simp) fun p H2 _ hp s2 => good p H2 (bad_no (by omega) fun z => ?_) hp s2
          rw [List.getElem?_eq_getElem hs1] at z
          exact e0 (congrArg (fun c => [c]) (Option.some.inj z.1))
theorem ok_law_due (F : Pl K mg "_law_due" s_law_due ["text"]) (B : Bl mg) (D_law_run : Def P w K mg base 1 "_law_run" ["text", "first"] spRun) (D_law_taken : Def P w K mg base 1 "_law_taken" ["base", "exponent"] spTakenL) : Def P w K mg base 2 "_law_due" ["text"] spDue := by
  refine F.ok sc_law_due (fun vs H Q E h => ?_) (fun f cdv A outer s H vs Q E hr h => ?_)
  · obtain ⟨l, rfl, _⟩ := h
    rfl
  · obtain ⟨l, rfl, hl, hnum, hplace⟩ := h
    refine ⟨_, (pss_cons (ps_asg (pe_df D_law_run hr (by rfl) (pa_cons (pv 0) (pa_cons pe_int pa_nil))) (pg_tup (by rfl) (pgs_cons (pg_name (i := 1) sc_law_due.nd rfl (Or.inl rfl)) (pgs_cons (pg_name (i := 2) sc_law_due.nd rfl (Or.inl rfl)) pgs_nil))))
      (pss_cons (ps_if (pt_cmpR op_notN1 (pv 2) pe_non (nomark _)) (pss_one (ps_ret (pe_tup (pa_cons pe_str (pa_cons (pv 2) pa_nil))))) pss_nil)
      (pss_cons (ps_if (pt_cmpR op_eq (pv 1) (pe_callB cr_lenT (by rfl) B.len PySem.boot_len (pa_cons (pv 0) pa_nil)) (nomark _)) (pss_one (ps_ret (pe_callTy cr_intS (by rfl) B.int (by decide +kernel) (pa_cons (pv 0) pa_nil)))) pss_nil)
      (pss_cons (ps_if (pt_cmpR op_ne (pe_ix ix_str (pv 0) (pv 1) (fun _ _ => rfl)) pe_str (nomark _)) (pss_one (ps_ret (pe_tup (pa_cons pe_str (pa_cons (pv 1) pa_nil))))) pss_nil)
      (pss_cons (ps_asg (pe_df D_law_run hr (by rfl) (pa_cons (pv 0) (pa_cons (pe_op op_add (pv 1) pe_int) pa_nil))) (pg_tup (by rfl) (pgs_cons (pg_name (i := 3) sc_law_due.nd rfl (Or.inl rfl)) (pgs_cons (pg_name (i := 2) sc_law_due.nd rfl (Or.inl rfl)) pgs_nil))))
      (pss_cons (ps_if (pt_cmpR op_notN1 (pv 2) pe_non (nomark _)) (pss_one (ps_ret (pe_tup (pa_cons pe_str (pa_cons (pv 2) pa_nil))))) pss_nil)
      (pss_cons (ps_if (pt_cmpR op_lt (pv 3) (pe_callB cr_lenT (by rfl) B.len PySem.boot_len (pa_cons (pv 0) pa_nil)) (nomark _)) (pss_one (ps_ret (pe_tup (pa_cons pe_str (pa_cons (pv 3) pa_nil))))) pss_nil)
      (pss_cons (ps_if (pt_cmpR op_gt (pe_callTy cr_intS (by rfl) B.int (by decide +kernel) (pa_cons (pe_slice sl_str (pv 0) (po_some (pe_op op_add (pv 1) pe_int)) (po_some (pv 3))) pa_nil)) pe_int (nomark _)) (pss_one (ps_ret (pe_tup (pa_cons pe_str (pa_cons (pe_op op_add (pv 1) pe_int) pa_nil))))) pss_nil)
      (pss_one (ps_ret (pe_df D_law_taken hr (by rfl) (pa_cons (pe_callTy cr_intS (by rfl) B.int (by decide +kernel) (pa_cons (pe_slice sl_str (pv 0) po_none (po_some (pv 1))) pa_nil)) (pa_cons (pe_callTy cr_intS (by rfl) B.int (by decide +kernel) (pa_cons (pe_slice sl_str (pv 0) (po_some (pe_op op_add (pv 1) pe_int)) (po_some (pv 3))) pa_nil)) pa_nil))))))))))))), ?_⟩
    refine at_st [some (.str (S l)), none, none, none] rfl ?_
    walk_at "p0"
    have hle := runEnd_le (l := l) (s := 0) (Nat.zero_le _)
    refine ⟨l, 0, rfl, hl, Nat.zero_le _, fun p1 H1 s1 hp1 => ?_⟩
    walk_at "pw"
    refine r_gTup2 hp1 ?_
    cases b0 : bad l 0 with
    | true =>
      rw [vbad_t b0]
      walk_at "pw"
      refine r_notN1 ?_
      walk_at "pw"
      refine ite_someI ?_
      walk_at "pw"
      refine newT (by simp) fun p2 H2 _ hp2 s2 => ?_
      exact hplace 0 (by unfold dueOf; rw [if_pos b0]) p2 H2 (s1.trans s2) hp2
    | false =>
    have nb0 : ¬ bad l 0 = true := by rw [b0]; decide
    have ne0 := ne_of_good b0
    rw [vbad_f b0]
    walk_at "pw"
    refine r_notN1 ?_
    walk_at "pw"
    refine ite_noneI ?_
    walk_at "pw"
    refine r_lenSS (by omega) ?_
    walk_at "pw"
    refine r_iteI (fun e1 => ?_) (fun e1 => ?_)
    · walk_at "pw"
      have e1' : runEnd l 0 = l.length := by omega
      have ad : NumText.AllDigits l := by
        have := digs_drop e1'
        rwa [List.drop_zero] at this
      refine r_intS (digs_all ad) (fun z => by rw [z] at ne0; exact ne0 rfl) (by omega) ?_
      exact hnum _ (by unfold dueOf; rw [if_neg nb0, if_pos e1']) _ s1
    walk_at "pw"
    have e1' : runEnd l 0 ≠ l.length := by omega
    have hb1 : runEnd l 0 < l.length := by omega
    refine r_ixS (c := l[runEnd l 0]) (by omega) (atI_nat (List.getElem?_eq_getElem hb1)) ?_
    walk_at "pw"
    refine r_iteNS (fun e2 => ?_) (fun e2 => ?_)
    · have n2 : l[runEnd l 0]? ≠ some 94 := by
        rw [List.getElem?_eq_getElem hb1]
        intro z
        exact e2 (congrArg (fun c => [c]) (Option.some.inj z))
      walk_at "pw"
      refine newT (by simp) fun p2 H2 _ hp2 s2 => ?_
      exact hplace _ (by unfold dueOf; rw [if_neg nb0, if_neg e1', if_pos n2]) p2 H2 (s1.trans s2) hp2
    have n2 : ¬ l[runEnd l 0]? ≠ some 94 := by
      rw [List.getElem?_eq_getElem hb1]
      exact fun z => z (congrArg some (List.head_eq_of_cons_eq e2))
    walk_at "pw"
    refine ⟨l, runEnd l 0 + 1, rfl, hl, by omega, fun p3 H3 s3 hp3 => ?_⟩
    walk_at "pw"
    refine r_gTup2 hp3 ?_
    have hle2 := runEnd_le (l := l) (s := runEnd l 0 + 1) (by omega)
    cases b3 : bad l (runEnd l 0 + 1) with
    | true =>
      rw [vbad_t b3]
      walk_at "pw"
      refine r_notN1 ?_
      walk_at "pw"
      refine ite_someI ?_
      walk_at "pw"
      refine newT (by simp) fun p2 H2 _ hp2 s2 => ?_
      exact hplace _ (by unfold dueOf; rw [if_neg nb0, if_neg e1', if_neg n2, if_pos b3]) p2 H2 (s1.trans (s3.trans s2)) hp2
    | false =>
    have nb3 : ¬ bad l (runEnd l 0 + 1) = true := by rw [b3]; decide
    have ne3 := ne_of_good b3
    have ge3 := runEnd_ge (l := l) (s := runEnd l 0 + 1)
    rw [vbad_f b3]
    walk_at "pw"
    refine r_notN1 ?_
    walk_at "pw"
    refine ite_noneI ?_
    walk_at "pw"
    refine r_lenSS (by omega) ?_
    walk_at "pw"
    refine r_ite (fun e4 => ?_) (fun e4 => ?_)
    · walk_at "pw"
      refine newT (by simp) fun p2 H2 _ hp2 s2 => ?_
      exact hplace _ (by unfold dueOf; rw [if_neg nb0, if_neg e1', if_neg n2, if_neg nb3, if_pos (by omega)]) p2 H2 (s1.trans (s3.trans s2)) hp2
    have n4 : ¬ runEnd l (runEnd l 0 + 1) < l.length := by omega
    have e4' : runEnd l (runEnd l 0 + 1) = l.length := by omega
    have hdl : (l.drop (runEnd l 0 + 1)).length ≤ 600 := by rw [List.length_drop]; omega
    have hdn : l.drop (runEnd l 0 + 1) ≠ [] := fun z => by
      have := congrArg List.length z
      rw [List.length_drop, List.length_nil] at this
      omega
    walk_at "pw"
    refine r_slS_mid (i := runEnd l 0 + 1) (j := runEnd l (runEnd l 0 + 1)) (by omega) ge3 hle2 ?_
    rw [take_rest e4']
    walk_at "pw"
    refine r_intS (digs_all (digs_drop e4')) hdn (by omega) ?_
    walk_at "pw"
    refine r_ite (fun e5 => ?_) (fun e5 => ?_)
    · walk_at "pw"
      refine newT (by simp) fun p2 H2 _ hp2 s2 => ?_
      exact hplace (runEnd l 0 + 1) (by unfold dueOf; rw [if_neg nb0, if_neg e1', if_neg n2, if_neg nb3, if_neg n4, if_pos (by omega)]) p2 H2 (s1.trans (s3.trans s2)) hp2
    walk_at "pw"
    refine r_slS_to (k := runEnd l 0) (by omega) ?_
    walk_at "pw"
    refine r_intS (digs_all digs_take) (fun z => by
      have := congrArg List.length z
      rw [List.length_take, List.length_nil] at this
      omega) (by rw [List.length_take]; omega) ?_
    walk_at "pw"
    refine r_slS_mid (i := runEnd l 0 + 1) (j := runEnd l (runEnd l 0 + 1)) (by omega) ge3 hle2 ?_
    rw [take_rest e4']
    walk_at "pw"
    refine r_intS (digs_all (digs_drop e4')) hdn (by omega) ?_
    walk_at "pw"
    refine ⟨_, _, 4000, rfl, Nat.lt_of_lt_of_le (digs_bits digs_take) (Nat.pow_le_pow_right (by decide) (by rw [List.length_take]; omega)), by omega, Nat.lt_of_le_of_lt (show _ ≤ 200 by omega) (by decide), ?_⟩
    exact hnum _ (by unfold dueOf; rw [if_neg nb0, if_neg e1', if_neg n2, if_neg nb3, if_neg n4, if_neg (by omega)]) _ (s1.trans s3)
end
end K03

namespace K03
open PySem PySem.Spec PyProof.Rows L2 Pw SX TL
section
variable {P : Program} {w : World} {K : PySem.W.Frag} {mg : Str → Option Value} {base : Heap}
theorem ok_law_is_whole (F : Pl K mg "_law_is_whole" s_law_is_whole ["found", "due"]) (B : Bl mg) : Def P w K mg base 1 "_law_is_whole" ["found", "due"] spWhole := by
  refine F.ok sc_law_is_whole (fun vs H Q E h => ?_) (fun f cdv A outer s H vs Q E hr h => ?_)
  · obtain ⟨a, rfl, _⟩ := h
    rfl
  · obtain ⟨a, rfl, q⟩ := h
    refine ⟨_, (pss_one (ps_ret (pe_and (pe_callB call_isi (by rfl) B.isinstance (by decide +kernel) (pa_cons (pv 0) (pa_cons (pe_bltn (v := .ty "int") (by rfl) B.int (by decide +kernel) rfl) pa_nil))) (pe_and (pe_not (pe_callB call_isi (by rfl) B.isinstance (by decide +kernel) (pa_cons (pv 0) (pa_cons (pe_bltn (v := .ty "bool") (by rfl) B.bool (by decide +kernel) rfl) pa_nil)))) (pe_one (pe_cmpR op_eq (pv 0) (pv 1) (nomark _))))))), ?_⟩
    refine at_st [some (.int a), some (.int a)] rfl ?_
    walk_at "p0"
    rw [decide_eq_true rfl]
    exact q
end
end K03

namespace K03
open PySem PySem.Spec PyProof.Rows L2 Pw SX TL
section
variable {P : Program} {w : World} {K : PySem.W.Frag} {mg : Str → Option Value} {base : Heap}
theorem ok_law_right {CA CF CN CP : Addr} (F : Pl K mg "_law_right" s_law_right ["text"]) (B : Bl mg) (M_PowerError : mg "PowerError" = some (.ref CP)) (hex : PySem.W.exmOne K (.ref CN) (.ref CP) = some true)
    (D_read_number : DefX P w K mg base 4 "read_number" ["text"] (spReadX CN)) (D_law_due : Def P w K mg base 2 "_law_due" ["text"] spDue) (D_law_kind : Def P w K mg base 1 "_law_kind" ["caught"] (spKind CF CN))
    (D_law_is_whole : Def P w K mg base 1 "_law_is_whole" ["found", "due"] spWhole) : Def P w K mg base 5 "_law_right" ["text"] spRightT := by
  refine F.ok sc_law_right (fun vs H Q E h => ?_) (fun f cdv A outer s H vs Q E hr h => ?_)
  · obtain ⟨l, rfl, _⟩ := h
    rfl
  · obtain ⟨l, rfl, hl, q⟩ := h
    refine ⟨_, (pss_cons (ps_set (i := 1) sc_law_right.nd rfl (Or.inl rfl) (pe_df D_law_due hr (by rfl) (pa_cons (pv 0) pa_nil)))
      (pss_cons (ps_for PassesOwn.never rfl (pi_range1 (by rfl) B.range (pa_cons pe_int pa_nil)) (pg_name (i := 2) sc_law_right.nd rfl (Or.inl rfl))
      (pss_cons (ps_set (i := 3) sc_law_right.nd rfl (Or.inl rfl) pe_non)
      (pss_cons (ps_set (i := 4) sc_law_right.nd rfl (Or.inl rfl) pe_non)
      (pss_cons (ps_try_kept (i := 5) rfl rfl sc_law_right.nd rfl rfl ⟨rfl, by decide, .inl M_PowerError⟩ rfl (fun W pn xe tk _ => by exact (pss_one (ps_set (i := 3) sc_law_right.nd rfl (Or.inl rfl) (pe_dfS D_read_number hr tk (by rfl) (pa_cons (pv 0) pa_nil)))))
      (fun a oe cls d pn hz hf => by exact (pss_one (ps_set (i := 4) sc_law_right.nd rfl (Or.inl rfl) (pv 5)))))
      (pss_cons (ps_if (PW.pt (pw_and (pt_val (pe_callB call_isi (by rfl) B.isinstance (by decide +kernel) (pa_cons (pv 1) (pa_cons (pe_bltn (v := .ty "tuple") (by rfl) B.tuple (by decide +kernel) rfl) pa_nil)))) (pw_and1 (PW.pt (pw_or (pt_cmpR op_isN1 (pv 4) pe_non (nomark _)) (pw_or1 (pt_cmpR (op_neD hr.units) (pe_df D_law_kind hr (by rfl) (pa_cons (pv 4) pa_nil)) (pv 1) (nomark _)))))))) (pss_one (ps_ret pe_bl)) pss_nil)
      (pss_one (ps_if (PW.pt (pw_and (pt_val (pe_callB call_isi (by rfl) B.isinstance (by decide +kernel) (pa_cons (pv 1) (pa_cons (pe_bltn (v := .ty "int") (by rfl) B.int (by decide +kernel) rfl) pa_nil)))) (pw_and1 (pt_not (pt_val (pe_df D_law_is_whole hr (by rfl) (pa_cons (pv 3) (pa_cons (pv 1) pa_nil)))))))) (pss_one (ps_ret pe_bl)) pss_nil)))))))
      (pss_one (ps_ret pe_bl)))), ?_⟩
    refine at_st [some (.str (S l)), none, none, none, none, none] rfl ?_
    walk_at "p0"
    refine ⟨l, rfl, hl, fun n hn H1 s1 => ?_, fun k hk p1 H1 s1 hp1 => ?_⟩
    · walk_at "pw"
      refine ⟨by decide, by decide, for_range (fun i σ H' => ∃ v2 v3 v4 : Option V, σ = [some (.str (S l)), some (.int n), v2, v3, v4, none] ∧ Same H1 H') ⟨none, none, none, rfl, Same.refl _⟩ ?_ ?_⟩
      · rintro i σ H2 hi ⟨v2, v3, v4, rfl, s2⟩
        walk_at "pw"
        refine r_callS ?_
        walk_at "pw"
        refine ⟨l, rfl, by omega, fun k hk => absurd (hn.symm.trans hk) (fun z => nomatch z), fun m hm => ?_⟩
        obtain rfl : n = m := Sum.inl.inj (hn.symm.trans hm)
        walk_at "pw"
        refine ⟨_, rfl, ?_⟩
        walk_at "pw"
        exact ⟨_, _, _, rfl, s2⟩
      · rintro σ H2 ⟨v2, v3, v4, rfl, s2⟩
        walk_at "pw"
        exact q H2 (s1.trans s2)
    · walk_at "pw"
      refine ⟨by decide, by decide, for_range (fun i σ H' => ∃ v2 v3 v4 : Option V, σ = [some (.str (S l)), some (.ref p1), v2, v3, v4, none] ∧ Same H1 H') ⟨none, none, none, rfl, Same.refl _⟩ ?_ ?_⟩
      · rintro i σ H2 hi ⟨v2, v3, v4, rfl, s2⟩
        walk_at "pw"
        refine r_callS ?_
        walk_at "pw"
        refine ⟨l, rfl, by omega, fun k' hk' d hd => ?_, fun m hm => absurd (hk.symm.trans hm) (fun z => nomatch z)⟩
        obtain rfl : k = k' := Sum.inr.inj (hk.symm.trans hk')
        refine ⟨hex, fun a ha => ?_⟩
        have s3 : Same H2 (upd H2 d (.xd [("place", .int (k : Int))])) := same_new hd
        have s4 : Same H2 (upd (upd H2 d (.xd [("place", .int (k : Int))])) a (exK (.ref CN) (some d) a)) := s3.trans (same_new ha)
        have hd4 : upd (upd H2 d (.xd [("place", .int (k : Int))])) a (exK (.ref CN) (some d) a) d = some (.xd [("place", .int (k : Int))]) := same_new ha _ _ upd_same
        have an : AnEx (upd (upd H2 d (.xd [("place", .int (k : Int))])) a (exK (.ref CN) (some d) a)) (.ref a) CN (some d) := ⟨a, _, rfl, upd_same, exK_says, .xd hd4⟩
        walk_at "pw"
        refine dK_nx ?_
        generalize upd (upd H2 d (.xd [("place", .int (k : Int))])) a (exK (.ref CN) (some d) a) = H4 at s4 hd4 an ⊢
        dsimp only
        walk_at "pw"
        have hp4 := s4 _ _ (s2 _ _ hp1)
        refine r_isiTT hp4 ?_
        walk_at "pw"
        refine r_isN1 ?_
        walk_at "pw"
        refine ite_refN ?_
        walk_at "pw"
        refine ⟨_, d, (k : Int), rfl, .inl ⟨an, hd4, fun p6 H6 s6 hp6 => ?_⟩⟩
        walk_at "pw"
        refine r_neSI (SqT.of hp6) (SqT.of (s6 _ _ hp4)) ?_
        walk_at "pw"
        refine r_isiTI (s6 _ _ hp4) ?_
        walk_at "pw"
        exact ⟨_, _, _, rfl, s2.trans (s4.trans s6)⟩
      · rintro σ H2 ⟨v2, v3, v4, rfl, s2⟩
        walk_at "pw"
        exact q H2 (s1.trans s2)
end
end K03

namespace K03
open PySem PySem.Spec PyProof.Rows L2 Pw SX TL
section
variable {P : Program} {w : World} {K : PySem.W.Frag} {mg : Str → Option Value} {base : Heap}
theorem toS (x : Str) : x = S x.cps.toList := by
  cases x
  simp [S]
/-- any sign -/
def spSign : Sp := fun vs H Q _ => ∃ (d c : Addr) (n : Nat), vs = [.ref d] ∧ DeckAt H d c n ∧ n ≤ 2 ^ 40 ∧ ∀ (z : Nat) (H' : Hp), Keep d H H' → DeckAt H' d c (n + 4) → Q (.str (S [z])) H'
theorem ok_law_sign (F : Pl K mg "_law_sign" s_law_sign ["deck"]) (B : Bl mg) (D_law_next : Def P w K mg base 2 "_law_next" ["deck", "many"] spNext) : Def P w K mg base 3 "_law_sign" ["deck"] spSign := by
  refine F.ok sc_law_sign (fun vs H Q E h => ?_) (fun f cdv A outer s H vs Q E hr h => ?_)
  · obtain ⟨d, c, n, rfl, _⟩ := h
    rfl
  · obtain ⟨d, c, n, rfl, D, hn, q⟩ := h
    refine ⟨_, (pss_cons (ps_set (i := 1) sc_law_sign.nd rfl (Or.inl rfl) pe_str)
      (pss_cons (ps_set (i := 2) sc_law_sign.nd rfl (Or.inl rfl) (pe_lst (pa_cons (pe_ix ix_str (pv 1) (pe_df D_law_next hr (by rfl) (pa_cons (pv 0) (pa_cons (pe_callB cr_lenT (by rfl) B.len PySem.boot_len (pa_cons (pv 1) pa_nil)) pa_nil))) (fun _ _ => rfl)) (pa_cons (pe_ix ix_str pe_str (pe_df D_law_next hr (by rfl) (pa_cons (pv 0) (pa_cons pe_int pa_nil))) (fun _ _ => rfl)) (pa_cons (pe_ix ix_str pe_str (pe_df D_law_next hr (by rfl) (pa_cons (pv 0) (pa_cons pe_int pa_nil))) (fun _ _ => rfl)) pa_nil)))))
      (pss_one (ps_ret (pe_ix ix_list (pv 2) (pe_df D_law_next hr (by rfl) (pa_cons (pv 0) (pa_cons pe_int pa_nil))) (fun _ _ => rfl)))))), ?_⟩
    refine at_st [some (.ref d), none, none] rfl ?_
    walk_at "p0"
    obtain ⟨L, hL, hlen⟩ : ∃ L : List Nat, (" !\"#$&'()*+,-./0123456789:;<=>?@ABCDEFGHIJKLMNOPQRSTUVWXYZ[\\]^_`abcdefghijklmnopqrstuvwxyz{|}~\n" : Str) = S L ∧ L.length = 95 := ⟨_, toS _, by decide +kernel⟩
    rw [hL, show ("^0" : Str) = S [94, 48] from by decide +kernel]
    refine r_lenSS (by omega) ?_
    walk_at "pw"
    refine ⟨_, _, _, _, rfl, by omega, by rw [hlen]; decide, D, by omega, fun r1 H1 r10 r11 k1 D1 => ?_⟩
    obtain ⟨i1, rfl⟩ := Int.eq_ofNat_of_zero_le r10
    have h1 : i1 < L.length := by omega
    refine r_ixS (by omega) (atI_nat (List.getElem?_eq_getElem h1)) ?_
    walk_at "pw"
    refine ⟨_, _, _, _, rfl, by decide, by decide, D1, by omega, fun r2 H2 r20 r21 k2 D2 => ?_⟩
    obtain ⟨i2, rfl⟩ := Int.eq_ofNat_of_zero_le r20
    have h2 : i2 < [48, 49, 50, 51, 52, 53, 54, 55, 56, 57].length := by show i2 < 10; omega
    refine r_ixS (by decide) (atI_nat (List.getElem?_eq_getElem h2)) ?_
    walk_at "pw"
    refine ⟨_, _, _, _, rfl, by decide, by decide, D2, by omega, fun r3 H3 r30 r31 k3 D3 => ?_⟩
    obtain ⟨i3, rfl⟩ := Int.eq_ofNat_of_zero_le r30
    have h3 : i3 < [94, 48].length := by show i3 < 2; omega
    refine r_ixS (by decide) (atI_nat (List.getElem?_eq_getElem h3)) ?_
    walk_at "pw"
    refine newL (by simp) fun p H4 np hp s4 => ?_
    walk_at "pw"
    refine ⟨_, _, _, _, rfl, by decide, by decide, D3.same s4, by omega, fun r4 H5 r40 r41 k5 D5 => ?_⟩
    have hp5 := k5 _ _ (D3.ne np) hp
    have kk := k1.trans (k2.trans (k3.trans ((Keep.of s4).trans k5)))
    walk_at "pw"
    have r4c : r4 = 0 ∨ r4 = 1 ∨ r4 = 2 := by omega
    rcases r4c with rfl | rfl | rfl
    · refine r_ixL (SqL.of hp5) rfl ?_
      exact q _ _ kk D5
    · refine r_ixL (SqL.of hp5) rfl ?_
      exact q _ _ kk D5
    · refine r_ixL (SqL.of hp5) rfl ?_
      exact q _ _ kk D5
/-- a text of at most a hundred signs, spoilt -/
def spSpoilt : Sp := fun vs H Q _ => ∃ (d c : Addr) (l : List Nat) (n : Nat), vs = [.ref d, .str (S l)] ∧ l.length ≤ 100 ∧ DeckAt H d c n ∧ n ≤ 2 ^ 39 ∧ ∀ (z : List Nat) (H' : Hp), z.length ≤ 200 → Keep d H H' → DeckAt H' d c (n + 30) → Q (.str (S z)) H'
theorem ok_law_spoilt (F : Pl K mg "_law_spoilt" s_law_spoilt ["deck", "text"]) (B : Bl mg) (D_law_next : Def P w K mg base 2 "_law_next" ["deck", "many"] spNext) (D_law_sign : Def P w K mg base 3 "_law_sign" ["deck"] spSign) :
    Def P w K mg base 4 "_law_spoilt" ["deck", "text"] spSpoilt := by
  refine F.ok sc_law_spoilt (fun vs H Q E h => ?_) (fun f cdv A outer s H vs Q E hr h => ?_)
  · obtain ⟨d, c, l, n, rfl, _⟩ := h
    rfl
  · obtain ⟨d, c, l, n, rfl, hl, D, hn, q⟩ := h
    refine ⟨_, (pss_cons (ps_for PassesOwn.never rfl (pi_range1 (by rfl) B.range (pa_cons (pe_op op_add pe_int (pe_df D_law_next hr (by rfl) (pa_cons (pv 0) (pa_cons pe_int pa_nil)))) pa_nil)) (pg_name (i := 2) sc_law_spoilt.nd rfl (Or.inl rfl))
      (pss_cons (ps_set (i := 3) sc_law_spoilt.nd rfl (Or.inl rfl) (pe_ix ix_list (pe_lst (pa_cons (pe_df D_law_next hr (by rfl) (pa_cons (pv 0) (pa_cons (pe_op op_add (pe_callB cr_lenT (by rfl) B.len PySem.boot_len (pa_cons (pv 1) pa_nil)) pe_int) pa_nil))) (pa_cons (pe_callB (cr_max2 rfl) (by rfl) B.max (by decide +kernel) (pa_cons pe_int (pa_cons (pe_op op_sub (pe_callB cr_lenT (by rfl) B.len PySem.boot_len (pa_cons (pv 1) pa_nil)) pe_int) pa_nil))) (pa_cons pe_int pa_nil)))) (pe_df D_law_next hr (by rfl) (pa_cons (pv 0) (pa_cons pe_int pa_nil))) (fun _ _ => rfl)))
      (pss_cons (ps_set (i := 4) sc_law_spoilt.nd rfl (Or.inl rfl) (pe_df D_law_sign hr (by rfl) (pa_cons (pv 0) pa_nil)))
      (pss_cons (ps_set (i := 5) sc_law_spoilt.nd rfl (Or.inl rfl) (pe_lst (pa_cons (pe_op op_catS (pe_op op_catS (pe_slice sl_str (pv 1) po_none (po_some (pv 3))) (pv 4)) (pe_slice sl_str (pv 1) (po_some (pv 3)) po_none)) (pa_cons (pe_op op_catS (pe_op op_catS (pe_slice sl_str (pv 1) po_none (po_some (pv 3))) (pv 4)) (pe_slice sl_str (pv 1) (po_some (pe_op op_add (pv 3) pe_int)) po_none)) (pa_cons (pe_op op_catS (pe_slice sl_str (pv 1) po_none (po_some (pv 3))) (pe_slice sl_str (pv 1) (po_some (pe_op op_add (pv 3) pe_int)) po_none)) (pa_cons (pe_slice sl_str (pv 1) po_none (po_some (pv 3))) pa_nil))))))
      (pss_one (ps_set (i := 1) sc_law_spoilt.nd rfl (Or.inl rfl) (pe_ix ix_list (pv 5) (pe_df D_law_next hr (by rfl) (pa_cons (pv 0) (pa_cons pe_int pa_nil))) (fun _ _ => rfl))))))))
      (pss_one (ps_ret (pe_slice sl_str (pv 1) po_none (po_some pe_int))))), ?_⟩
    refine at_st [some (.ref d), some (.str (S l)), none, none, none, none] rfl ?_
    walk_at "p0"
    refine ⟨_, _, _, _, rfl, by decide, by decide, D, by omega, fun r0 H1 r00 r01 k1 D1 => ?_⟩
    walk_at "pw"
    refine ⟨by omega, by omega, for_range (fun i σ H' => ∃ (z : List Nat) (v2 v3 v4 v5 : Option V), σ = [some (.ref d), some (.str (S z)), v2, v3, v4, v5] ∧ z.length ≤ 100 + i ∧ i ≤ 3 ∧ Keep d H H' ∧ DeckAt H' d c (n + 1 + 7 * i)) ⟨l, none, none, none, none, rfl, by omega, by omega, k1, D1⟩ ?_ ?_⟩
    · rintro i σ H2 hi ⟨z, v2, v3, v4, v5, rfl, hz, i3, k2, D2⟩
      walk_at "pw"
      refine r_lenSS (by omega) ?_
      walk_at "pw"
      refine ⟨_, _, _, _, rfl, by omega, Nat.lt_of_lt_of_le (show _ < 2 ^ 10 by omega) (Nat.pow_le_pow_right (by decide) (by decide)), D2, by omega, fun r1 H3 r10 r11 k3 D3 => ?_⟩
      walk_at "pw"
      refine r_lenSS (by omega) ?_
      walk_at "pw"
      refine newL (by simp) fun p1 H4 np1 hp1 s4 => ?_
      walk_at "pw"
      refine ⟨_, _, _, _, rfl, by decide, by decide, D3.same s4, by omega, fun r2 H5 r20 r21 k5 D5 => ?_⟩
      have hp5 := k5 _ _ (D3.ne np1) hp1
      walk_at "pw"
      obtain ⟨e, he, ha⟩ := at_ints (ns := [r1, if (z.length : Int) - 1 > 0 then (z.length : Int) - 1 else 0, 0]) r20 r21
      have e2 : 0 ≤ e ∧ e ≤ z.length := by
        simp only [List.mem_cons, List.not_mem_nil, or_false] at he
        omega
      obtain ⟨a, rfl⟩ := Int.eq_ofNat_of_zero_le e2.1
      have az : a ≤ z.length := by omega
      refine r_ixL (SqL.of hp5) ha ?_
      walk_at "pw"
      refine ⟨_, _, _, rfl, D5, by omega, fun g H6 k6 D6 => ?_⟩
      walk_at "pw"
      refine r_slS_to (k := a) (by omega) ?_
      walk_at "pw"
      refine r_catS (by simp; omega) ?_
      walk_at "pw"
      refine r_slS_from (k := a) (by omega) ?_
      walk_at "pw"
      refine r_catS (by simp; omega) ?_
      walk_at "pw"
      refine r_slS_to (k := a) (by omega) ?_
      walk_at "pw"
      refine r_catS (by simp; omega) ?_
      walk_at "pw"
      refine r_slS_from (k := a + 1) (by omega) ?_
      walk_at "pw"
      refine r_catS (by simp; omega) ?_
      walk_at "pw"
      refine r_slS_to (k := a) (by omega) ?_
      walk_at "pw"
      refine r_slS_from (k := a + 1) (by omega) ?_
      walk_at "pw"
      refine r_catS (by simp; omega) ?_
      walk_at "pw"
      refine r_slS_to (k := a) (by omega) ?_
      walk_at "pw"
      refine newL (by simp) fun p2 H7 np2 hp2 s7 => ?_
      walk_at "pw"
      refine ⟨_, _, _, _, rfl, by decide, by decide, D6.same s7, by omega, fun r3 H8 r30 r31 k8 D8 => ?_⟩
      have hp8 := k8 _ _ (D6.ne np2) hp2
      have kk := k2.trans (k3.trans ((Keep.of s4).trans (k5.trans (k6.trans ((Keep.of s7).trans k8)))))
      walk_at "pw"
      have lt := List.length_take_le a z
      have ld1 : (z.drop a).length = z.length - a := List.length_drop
      have ld2 : (z.drop (a + 1)).length = z.length - (a + 1) := List.length_drop
      have lt' : (z.take a).length = a := by rw [List.length_take]; omega
      have r3c : r3 = 0 ∨ r3 = 1 ∨ r3 = 2 ∨ r3 = 3 := by omega
      rcases r3c with rfl | rfl | rfl | rfl
      · refine r_ixL (SqL.of hp8) rfl ?_
        exact ⟨_, _, _, _, _, rfl, by simp only [List.length_append, List.length_cons, List.length_nil]; omega, by omega, kk, D8.mono (by omega)⟩
      · refine r_ixL (SqL.of hp8) rfl ?_
        exact ⟨_, _, _, _, _, rfl, by simp only [List.length_append, List.length_cons, List.length_nil]; omega, by omega, kk, D8.mono (by omega)⟩
      · refine r_ixL (SqL.of hp8) rfl ?_
        exact ⟨_, _, _, _, _, rfl, by simp only [List.length_append, List.length_cons, List.length_nil]; omega, by omega, kk, D8.mono (by omega)⟩
      · refine r_ixL (SqL.of hp8) rfl ?_
        exact ⟨_, _, _, _, _, rfl, by omega, by omega, kk, D8.mono (by omega)⟩
    · rintro σ H2 ⟨z, v2, v3, v4, v5, rfl, hz, i3, k2, D2⟩
      walk_at "pw"
      refine r_slS_to (k := 200) (by omega) ?_
      exact q _ _ (by rw [List.length_take]; omega) k2 (D2.mono (by omega))
end
end K03

namespace K03
open PySem PySem.Spec PyProof.Rows L2 Pw SX TL
theorem r_catX {a b : Str} {H : Hp} {Q : VK} (h : a.length + b.length ≤ 100000) (q : Q (.str (a ++ b)) H) : rCatS (.str a) (.str b) H Q := ⟨a, b, rfl, rfl, Nat.le_trans h (by decide), q⟩
theorem lc1 : (Str.ofString " ").length = 1 := by decide +kernel
theorem lc2 : (Str.ofString "\n").length = 1 := by decide +kernel
theorem lc3 : (Str.ofString "-").length = 1 := by decide +kernel
theorem lc4 : (Str.ofString "^2").length = 2 := by decide +kernel
theorem lc5 : (Str.ofString "^0").length = 2 := by decide +kernel
theorem lc6 : (Str.ofString "^^").length = 2 := by decide +kernel
theorem lc7 : (Str.ofString "^201x").length = 5 := by decide +kernel
theorem lc8 : (Str.ofString "^-1").length = 3 := by decide +kernel
theorem erV_in {K : PySem.W.Frag} {f : Str} {C : Addr} {i : Int} {σ : L2.St} {H : Hp} {Q : VK} {tu : TA} (T : OexC K C) (hno : PySem.W.findIn K (.ref C) f = some none) (hi : i.natAbs.log2 < 1920) (hta : ∀ R : List V → Hp → Prop, R [V.int i] H → tu σ H R)
    (q : ∀ d, H d = none → ∀ a, (upd H d (.xd [(f, .int i)])) a = none → Q (.ref a) (upd (upd H d (.xd [(f, .int i)])) a (exK (.ref C) (some d) a))) : tErV (tMkO C (spErr K f) [] tu) σ H Q :=
  hta _ (mkErr_in (Q := fun cls d H1 => ∀ a, H1 a = none → Q (.ref a) (upd H1 a (exK cls d a))) T hno hi q)
local macro_rules | `(tactic| walk_at "lens") => `(tactic| (have h1 := lc1; have h2 := lc2; have h3 := lc3; have h4 := lc4; have h5 := lc5; have h6 := lc6; have h7 := lc7; have h8 := lc8; simp only [Str.length_append, S_len, List.length_cons, List.length_nil] at *; omega))
section
variable {P : Program} {w : World} {K : PySem.W.Frag} {mg : Str → Option Value} {base : Heap}
theorem ok_law {CA CF CN CP : Addr} {bmB : List Value} {B0 newId initId : String} {f : Addr} {fd : FuncData} (F : Fun K "law" "law" s_law f fd) (B : Bl mg)
    (X_NoAsk : ExcBaseFacts B0 newId initId bmB) (Q_NoAsk : PySem.W.excIn K CA bmB newId = true) (M_NoAsk : mg "NoAsk" = some (.ref CA)) (K_NoAsk : PySem.W.keepIn K (.ref CA) = true)
    (strA : PySem.W.findIn K (.ref CA) "__str__" = some (some (.builtin "BaseException.__str__"))) (subA : PySem.W.subIn K (.ref CA) (.type "BaseException") = some true)
    (T_NoNumber : ErrI P w K mg base "NoNumber" CN "place") (T_NoFactor : ErrI P w K mg base "NoFactor" CF "number")
    (D_law_deck : Def P w K mg base 1 "_law_deck" ["script"] (spDeck K)) (D_law_next : Def P w K mg base 2 "_law_next" ["deck", "many"] spNext) (D_law_number : Def P w K mg base 5 "_law_number" ["deck", "most"] spNumber)
    (D_law_sign : Def P w K mg base 3 "_law_sign" ["deck"] spSign) (D_law_spoilt : Def P w K mg base 4 "_law_spoilt" ["deck", "text"] spSpoilt) (D_law_right : Def P w K mg base 5 "_law_right" ["text"] spRightT)
    (D_law_kind : Def P w K mg base 1 "_law_kind" ["caught"] (spKind CF CN)) : FnOk P w K mg base CX0 6 f fd ["script"] (spLaw K) := by
  refine F.ok sc_law (fun vs H Q E h => ?_) (fun cdv A outer s H vs Q E hr h => ?_)
  · obtain ⟨a, ns, rfl, _⟩ := h
    rfl
  · obtain ⟨a, ns, rfl, hS, hlen, q⟩ := h
    refine ⟨_, (pss_cons (ps_set (i := 1) sc_law.nd rfl (Or.inr rfl) (pe_df D_law_deck hr (by rfl) (pa_cons (pv 0) pa_nil)))
      (pss_cons (ps_for PassesOwn.never rfl (pi_range1 (by rfl) B.range (pa_cons pe_int pa_nil)) (pg_name (i := 2) sc_law.nd rfl (Or.inl rfl))
      (pss_cons (ps_set (i := 3) sc_law.nd rfl (Or.inl rfl) (pe_callTy cr_strI (by rfl) B.str (by decide +kernel) (pa_cons (pe_df D_law_number hr (by rfl) (pa_cons (pv 1) (pa_cons (pe_op op_pow pe_int pe_int) pa_nil))) pa_nil)))
      (pss_cons (ps_set (i := 4) sc_law.nd rfl (Or.inl rfl) (pe_callTy cr_strI (by rfl) B.str (by decide +kernel) (pa_cons (pe_ix ix_list (pe_lst (pa_cons (pe_df D_law_next hr (by rfl) (pa_cons (pv 1) (pa_cons pe_int pa_nil))) (pa_cons (pe_op op_add pe_int (pe_df D_law_next hr (by rfl) (pa_cons (pv 1) (pa_cons pe_int pa_nil)))) (pa_cons (pe_df D_law_next hr (by rfl) (pa_cons (pv 1) (pa_cons (pe_op op_pow pe_int pe_int) pa_nil))) pa_nil)))) (pe_df D_law_next hr (by rfl) (pa_cons (pv 1) (pa_cons pe_int pa_nil))) (fun _ _ => rfl)) pa_nil)))
      (pss_cons (ps_set (i := 5) sc_law.nd rfl (Or.inr rfl) (pe_ix ix_list (pe_lst (pa_cons (pv 3) (pa_cons (pe_op op_catS (pe_op op_catS (pv 3) pe_str) (pv 4)) pa_nil))) (pe_callTy call_int1 (by rfl) B.int (by decide +kernel) (pa_cons (pe_cmpR op_gt (pe_df D_law_next hr (by rfl) (pa_cons (pv 1) (pa_cons pe_int pa_nil))) pe_int (nomark _)) pa_nil)) (fun _ _ => rfl)))
      (pss_cons (ps_setLc (i := 6) (own := [("k", 10)]) (by rfl) sc_law.nd rfl rfl (sw_true rfl rfl rfl (by decide +kernel)) (pi_range1 (by rfl) B.range (pa_cons pe_int pa_nil)) (blkOk_by (own := [("k", 10)]) (N := ["script", "deck", "turn", "base", "exponent", "text", "some", "free", "said", "fixed", "k", "odd"]) (sc := defScope s_law) (by decide +kernel)) (fun _ _ _ _ _ => (pg_name (i := 10) sc_law.nd rfl (Or.inl rfl))) (fun _ _ _ _ _ => pts_nil) (fun _ _ _ _ _ => (pe_df D_law_spoilt hr (by rfl) (pa_cons (pv 1) (pa_cons (pv 5) pa_nil)))))
      (pss_cons (ps_set (i := 6) sc_law.nd rfl (Or.inl rfl) (pe_op op_cat (pv 6) (pe_lst (pa_cons (pe_op op_catS pe_str (pv 5)) (pa_cons (pe_op op_catS (pv 5) pe_str) (pa_cons (pe_op op_catS (pv 5) pe_str) (pa_cons (pe_op op_catS pe_str (pv 5)) (pa_cons (pe_op op_catS pe_str (pv 5)) (pa_cons (pe_op op_catS (pv 5) pe_str) (pa_cons (pe_op op_catS (pv 5) pe_str) (pa_cons (pe_op op_catS pe_str (pv 5)) pa_nil)))))))))))
      (pss_cons (ps_set (i := 6) sc_law.nd rfl (Or.inl rfl) (pe_op op_cat (pv 6) (pe_lst (pa_cons (pe_op op_catS (pe_op op_catS (pv 3) pe_str) (pv 4)) (pa_cons (pe_op op_catS (pe_op op_catS (pv 3) pe_str) (pv 4)) (pa_cons (pe_op op_catS (pv 3) pe_str) (pa_cons (pe_op op_catS (pv 3) pe_str) (pa_cons (pv 5) pa_nil))))))))
      (pss_cons (ps_set (i := 7) sc_law.nd rfl (Or.inl rfl) (pe_m1 PySem.F.slot_str_join PySem.F.type_str_join mt_joinN pe_str (pe_lc (own := [("k", 10)]) (by rfl) sc_law.nd (pi_range1 (by rfl) B.range (pa_cons (pe_ix ix_list (pe_lst (pa_cons (pe_df D_law_next hr (by rfl) (pa_cons (pv 1) (pa_cons pe_int pa_nil))) (pa_cons pe_int pa_nil))) (pe_callTy call_int1 (by rfl) B.int (by decide +kernel) (pa_cons (pe_cmpR op_eq (pv 2) pe_int (nomark _)) pa_nil)) (fun _ _ => rfl)) pa_nil)) (blkOk_by (own := [("k", 10)]) (N := ["script", "deck", "turn", "base", "exponent", "text", "some", "free", "said", "fixed", "k", "odd"]) (sc := defScope s_law) (by decide +kernel)) (fun _ _ _ _ _ => (pg_name (i := 10) sc_law.nd rfl (Or.inl rfl))) (fun _ _ _ _ _ => pts_nil) (fun _ _ _ _ _ => (pe_ix (r := rIxS) ix_str pe_str (pe_df D_law_next hr (by rfl) (pa_cons (pv 1) (pa_cons pe_int pa_nil))) (fun _ _ => rfl))))))
      (pss_one (ps_if (pt_cmpR (op_neD hr.units) (pe_lc (own := [("odd", 11)]) (by rfl) sc_law.nd (pi_list (pe_op op_cat (pv 6) (pe_lst (pa_cons (pv 7) (pa_cons (pe_df D_law_sign hr (by rfl) (pa_cons (pv 1) pa_nil)) pa_nil))))) (blkOk_by (own := [("odd", 11)]) (N := ["script", "deck", "turn", "base", "exponent", "text", "some", "free", "said", "fixed", "k", "odd"]) (sc := defScope s_law) (by decide +kernel)) (fun _ _ _ _ _ => (pg_name (i := 11) sc_law.nd rfl (Or.inl rfl))) (fun _ _ _ _ _ => (pts_one (pt_not (pt_val (pe_df D_law_right hr (by rfl) (pa_cons (pv 11) pa_nil)))))) (fun _ _ _ _ _ => (pv 11))) (pe_lst pa_nil) (nomark _)) (pss_one (ps_ret pe_bl)) pss_nil))))))))))
      (pss_cons (ps_set (i := 8) sc_law.nd rfl (Or.inl rfl) (pe_ix ix_list (pe_lst (pa_cons pe_str (pa_cons pe_str (pa_cons pe_str (pa_cons (pe_op op_catS (pe_op op_repS pe_str pe_int) pe_str) pa_nil))))) (pe_df D_law_next hr (by rfl) (pa_cons (pv 1) (pa_cons pe_int pa_nil))) (fun _ _ => rfl)))
      (pss_cons (ps_if (PW.pt (pw_or (pt_cmpR op_ne (pe_callTy (call_strE (Nat.lt_trans (Nat.add_lt_add_left (by decide : 2 < 64) _) hr.units)) (by rfl) B.str (by decide +kernel) (pa_cons (pe_exs X_NoAsk Q_NoAsk M_NoAsk K_NoAsk (by rfl) rfl (pv 8)) pa_nil)) (pv 8) (nomark _)) (pw_or1 (pt_cmpR (op_neD hr.units) (pe_df D_law_kind hr (by rfl) (pa_cons (pe_erv (pmk_err T_NoNumber hr (by rfl) (pa_cons pe_int pa_nil))) pa_nil)) (pe_tup (pa_cons pe_str (pa_cons pe_int pa_nil))) (nomark _))))) (pss_one (ps_ret pe_bl)) pss_nil)
      (pss_cons (ps_if (pt_cmpR (op_neD hr.units) (pe_df D_law_kind hr (by rfl) (pa_cons (pe_erv (pmk_err T_NoFactor hr (by rfl) (pa_cons (pe_un un_neg pe_int) pa_nil))) pa_nil)) (pe_tup (pa_cons pe_str (pa_cons (pe_un un_neg pe_int) pa_nil))) (nomark _)) (pss_one (ps_ret pe_bl)) pss_nil)
      (pss_cons (ps_set (i := 9) sc_law.nd rfl (Or.inl rfl) (pe_lst (pa_cons pe_str (pa_cons pe_str (pa_cons pe_str (pa_cons pe_str (pa_cons pe_str (pa_cons pe_str (pa_cons pe_str (pa_cons pe_str (pa_cons pe_str (pa_cons pe_str (pa_cons pe_str (pa_cons pe_str (pa_cons pe_str (pa_cons (pe_op op_repS pe_str pe_int) pa_nil))))))))))))))))
      (pss_one (ps_ret (pe_cmpR (op_eqD hr.units) (pe_lc (own := [("text", 5)]) (by rfl) sc_law.nd (pi_list (pv 9)) (blkOk_by (own := [("text", 5)]) (N := ["script", "deck", "turn", "base", "exponent", "text", "some", "free", "said", "fixed", "k", "odd"]) (sc := defScope s_law) (by decide +kernel)) (fun _ _ _ _ _ => (pg_name (i := 5) sc_law.nd rfl (Or.inl rfl))) (fun _ _ _ _ _ => (pts_one (pt_not (pt_val (pe_df D_law_right hr (by rfl) (pa_cons (pv 5) pa_nil)))))) (fun _ _ _ _ _ => (pv 5))) (pe_lst pa_nil) (nomark _)))))))))), ?_⟩
    refine at_st [some (.ref a), none, none, none, none, none, none, none, none, none, none, none] rfl ?_
    walk_at "p0"
    refine ⟨a, ns, rfl, hS, fun d c H1 nd s1 D1 => ?_⟩
    walk_at "pw"
    refine ⟨by decide, by decide, for_range (fun i σ H' => ∃ (v2 v3 v4 v5 v6 v7 : Option V), σ = [some (.ref a), some (.ref d), v2, v3, v4, v5, v6, v7, none, none, none, none] ∧ DeckAt H' d c (600 * i)) ⟨none, none, none, none, none, none, rfl, D1⟩ ?_ ?_⟩
    · rintro i σ H2 hi ⟨v2, v3, v4, v5, v6, v7, rfl, D2⟩
      have hi' : i < 6 := hi
      walk_at "pw"
      refine ⟨_, _, _, _, rfl, by decide, by decide, D2, by omega, fun b0 H3 b00 b01 k3 D3 => ?_⟩
      obtain ⟨b, rfl, b140, b40⟩ := small40 b00 (by exact b01)
      have bl : (numL b).length ≤ 41 := numL_len_le (k := 40) (Nat.lt_of_le_of_lt b40 (by decide))
      walk_at "pw"
      refine r_strI (Nat.lt_trans b140 (Nat.pow_lt_pow_right (by decide) (by decide))) ?_
      walk_at "pw"
      refine ⟨_, _, _, _, rfl, by decide, by decide, D3, by omega, fun r1 H4 r10 r11 k4 D4 => ?_⟩
      walk_at "pw"
      refine ⟨_, _, _, _, rfl, by decide, by decide, D4, by omega, fun r2 H5 r20 r21 k5 D5 => ?_⟩
      walk_at "pw"
      refine ⟨_, _, _, _, rfl, by decide, by decide, D5, by omega, fun r3 H6 r30 r31 k6 D6 => ?_⟩
      walk_at "pw"
      refine newL (by simp) fun p1 H7 np1 hp1 s7 => ?_
      walk_at "pw"
      refine ⟨_, _, _, _, rfl, by decide, by decide, D6.same s7, by omega, fun r4 H8 r40 r41 k8 D8 => ?_⟩
      have hp8 := k8 _ _ (D6.ne np1) hp1
      walk_at "pw"
      obtain ⟨e0, he0, hat⟩ := at_ints (ns := [r1, 199 + r2, r3]) r40 r41
      have e02 : 0 ≤ e0 ∧ e0 < 1000000 := by
        simp only [List.mem_cons, List.not_mem_nil, or_false] at he0
        omega
      refine r_ixL (SqL.of hp8) hat ?_
      obtain ⟨e, rfl⟩ := Int.eq_ofNat_of_zero_le e02.1
      have el : (numL e).length ≤ 6 := numL_len_le (k := 5) (by omega)
      walk_at "pw"
      refine r_strI (Nat.lt_of_lt_of_le (show e < 2 ^ 20 by omega) (Nat.pow_le_pow_right (by decide) (by decide))) ?_
      walk_at "pw"
      refine r_catS (by simp; omega) ?_
      walk_at "pw"
      refine r_catS (by simp; omega) ?_
      walk_at "pw"
      refine newL (by simp) fun p2 H9 np2 hp2 s9 => ?_
      walk_at "pw"
      refine ⟨_, _, _, _, rfl, by decide, by decide, D8.same s9, by omega, fun r5 H10 r50 r51 k10 D10 => ?_⟩
      have hp10 := k10 _ _ (D8.ne np2) hp2
      walk_at "pw"
      refine .inr ⟨_, rfl, ?_⟩
      obtain ⟨T, hT, hTl⟩ : ∃ T : List Nat, atI [V.str (S (numL b)), V.str (S (numL b ++ [94] ++ numL e))] (if decide ((0 : Int) < r5) = true then 1 else 0) = some (.str (S T)) ∧ T.length ≤ 60 := by
        by_cases z : (0 : Int) < r5
        · rw [if_pos (decide_eq_true z)]
          exact ⟨_, rfl, by simp; omega⟩
        · rw [if_neg (by simpa using z)]
          exact ⟨_, rfl, by omega⟩
      refine r_ixL (SqL.of hp10) hT ?_
      walk_at "pw"
      refine ⟨by decide, by decide, fun l11 nl11 => ?_⟩
      have n11d := D10.ne nl11
      have n11c := D10.nec nl11
      refine lc_range (lo := 0) (n := 8) (fun j G => ∃ zs : List Str, G l11 = some (.lst (zs.map V.str)) ∧ zs.length = j ∧ (∀ z ∈ zs, z.length ≤ 500) ∧ DeckAt G d c (600 * i + 55 + 30 * j)) ⟨[], upd_same, rfl, fun x hx => (nomatch hx), (D10.upd n11d n11c).mono (by omega)⟩ ?_ ?_
      · rintro j G hj ⟨zs, hG, hz, hzl, DG⟩
        walk_at "pw"
        refine ⟨rfl, ?_⟩
        walk_at "pw"
        refine ⟨d, c, T, _, rfl, by omega, DG, by omega, fun z G2 zl k2 D2' => ?_⟩
        refine ⟨_, k2 _ _ n11d hG, by rw [List.length_map]; exact Nat.lt_of_lt_of_le (show zs.length < 100 by omega) (by decide), zs ++ [S z], ?_, by rw [List.length_append, List.length_singleton, hz], fun x h => ?_, (D2'.upd n11d n11c).mono (by omega)⟩
        · rw [upd_same, List.map_append]
          rfl
        · rcases List.mem_append.mp h with h | h
          · exact hzl x h
          · have : x = S z := by simpa using h
            rw [this, S_len]
            omega
      · rintro G ⟨zs, hG, hz, hzl, DG⟩
        walk_at "pw"
        refine r_catX (by walk_at "lens") ?_
        walk_at "pw"
        refine r_catX (by walk_at "lens") ?_
        walk_at "pw"
        refine r_catX (by walk_at "lens") ?_
        walk_at "pw"
        refine r_catX (by walk_at "lens") ?_
        walk_at "pw"
        refine r_catX (by walk_at "lens") ?_
        walk_at "pw"
        refine r_catX (by walk_at "lens") ?_
        walk_at "pw"
        refine r_catX (by walk_at "lens") ?_
        walk_at "pw"
        refine r_catX (by walk_at "lens") ?_
        walk_at "pw"
        refine newL (by simp) fun l12 H12 nl12 hl12 s12 => ?_
        walk_at "pw"
        have hG12 := s12 _ _ hG
        refine r_cat hG12 hl12 (by simp only [List.length_map, hz, List.length_cons, List.length_nil]; decide) (newC fun l13 H13 nl13 hl13 s13 => ?_)
        walk_at "pw"
        refine r_catX (by walk_at "lens") ?_
        walk_at "pw"
        refine r_catX (by walk_at "lens") ?_
        walk_at "pw"
        refine r_catX (by walk_at "lens") ?_
        walk_at "pw"
        refine r_catX (by walk_at "lens") ?_
        walk_at "pw"
        refine r_catX (by walk_at "lens") ?_
        walk_at "pw"
        refine r_catX (by walk_at "lens") ?_
        walk_at "pw"
        refine newL (by simp) fun l14 H14 nl14 hl14 s14 => ?_
        walk_at "pw"
        refine r_cat (s14 _ _ hl13) hl14 (by simp only [List.length_append, List.length_map, List.length_cons, List.length_nil, hz]; decide) (newC fun l15 H15 nl15 hl15 s15 => ?_)
        obtain ⟨zs2, e2, z2l, z2n⟩ : ∃ zs2 : List Str, List.map V.str zs ++ [V.str (Str.ofString " " ++ S T), V.str (S T ++ Str.ofString " "), V.str (S T ++ Str.ofString "\n"), V.str (S [48] ++ S T), V.str (Str.ofString "-" ++ S T), V.str (S T ++ S [94]), V.str (S T ++ Str.ofString "^2"), V.str (S [94] ++ S T)] ++
            [V.str (S (numL b) ++ Str.ofString "^0" ++ S (numL e)), V.str (S (numL b) ++ Str.ofString "^^" ++ S (numL e)), V.str (S (numL b) ++ Str.ofString "^201x"), V.str (S (numL b) ++ Str.ofString "^-1"), V.str (S T)] = zs2.map V.str ∧ (∀ z ∈ zs2, z.length ≤ 500) ∧ zs2.length = 21 := by
          refine ⟨zs ++ [Str.ofString " " ++ S T, S T ++ Str.ofString " ", S T ++ Str.ofString "\n", S [48] ++ S T, Str.ofString "-" ++ S T, S T ++ S [94], S T ++ Str.ofString "^2", S [94] ++ S T] ++
            [S (numL b) ++ Str.ofString "^0" ++ S (numL e), S (numL b) ++ Str.ofString "^^" ++ S (numL e), S (numL b) ++ Str.ofString "^201x", S (numL b) ++ Str.ofString "^-1", S T], by simp, fun z h => ?_, by simp only [List.length_append, List.length_cons, List.length_nil, hz]⟩
          rcases List.mem_append.mp h with h | h
          · rcases List.mem_append.mp h with h | h
            · exact hzl z h
            · simp only [List.mem_cons, List.not_mem_nil, or_false] at h
              rcases h with rfl | rfl | rfl | rfl | rfl | rfl | rfl | rfl <;> clear hzl e02 <;> walk_at "lens"
          · simp only [List.mem_cons, List.not_mem_nil, or_false] at h
            rcases h with rfl | rfl | rfl | rfl | rfl <;> clear hzl e02 <;> walk_at "lens"
        rw [e2] at hl15
        have n15d : l15 ≠ d := (((DG.same s12).same s13).same s14).ne nl15
        have D15 := (((DG.same s12).same s13).same s14).same s15
        walk_at "pw"
        refine ⟨_, _, _, _, rfl, by decide, by decide, D15, by omega, fun r6 H16 r60 r61 k16 D16 => ?_⟩
        have hl16 := k16 _ _ n15d hl15
        walk_at "pw"
        refine newL (by simp) fun p17 H17 np17 hp17 s17 => ?_
        walk_at "pw"
        refine .inr ⟨_, rfl, ?_⟩
        obtain ⟨m9, hm9, m90, m91⟩ : ∃ m : Int, atI [V.int r6, V.int 200] (if decide (V.int ((0 : Int) + (i : Int)) = V.int 0) = true then 1 else 0) = some (.int m) ∧ 0 ≤ m ∧ m ≤ 200 := by
          by_cases z : V.int ((0 : Int) + (i : Int)) = V.int 0
          · rw [if_pos (decide_eq_true z)]
            exact ⟨200, rfl, by decide, by decide⟩
          · rw [if_neg (by rw [decide_eq_false z]; decide)]
            exact ⟨r6, rfl, r60, by omega⟩
        refine r_ixL (SqL.of hp17) hm9 ?_
        walk_at "pw"
        refine ⟨by omega, by omega, fun l18 nl18 => ?_⟩
        have D17 := D16.same s17
        have n18d := D17.ne nl18
        have n18c := D17.nec nl18
        have hl17 := s17 _ _ hl16
        have n15n18 : l15 ≠ l18 := ne_of_none hl17 nl18
        refine lc_range (lo := 0) (n := m9.toNat) (fun j G => ∃ ls : List (List Nat), G l18 = some (.lst (ls.map fun l => V.str (S l))) ∧ ls.flatten.length = j ∧ ls.length = j ∧ DeckAt G d c (600 * i + 310 + j) ∧ G l15 = some (.lst (zs2.map V.str))) ⟨[], upd_same, rfl, rfl, (D17.upd n18d n18c).mono (by omega), by rw [upd_ne n15n18]; exact hl17⟩ ?_ ?_
        · rintro j G2 hj ⟨ls, hG2, lf, ll, DG2, hl⟩
          walk_at "pw"
          refine ⟨rfl, ?_⟩
          walk_at "pw"
          refine ⟨_, _, _, _, rfl, by decide, by decide, DG2, by omega, fun r7 H18 r70 r71 k18 D18 => ?_⟩
          obtain ⟨i7, rfl⟩ := Int.eq_ofNat_of_zero_le r70
          have h7 : i7 < [48, 49, 50, 51, 52, 53, 54, 55, 56, 57, 94, 94].length := by show i7 < 12; omega
          rw [show ("0123456789^^" : Str) = S [48, 49, 50, 51, 52, 53, 54, 55, 56, 57, 94, 94] from by decide +kernel]
          obtain ⟨c7, hc7⟩ : ∃ c7 : Nat, [48, 49, 50, 51, 52, 53, 54, 55, 56, 57, 94, 94][i7]? = some c7 := ⟨_, List.getElem?_eq_getElem h7⟩
          refine r_ixS (c := c7) (by decide) (atI_nat hc7) ?_
          refine ⟨_, k18 _ _ n18d hG2, by rw [List.length_map]; exact Nat.lt_of_lt_of_le (show ls.length < 1000 by omega) (by decide), ls ++ [[c7]], ?_, ?_, ?_, (D18.upd n18d n18c).mono (by omega), by rw [upd_ne n15n18]; exact k18 _ _ n15d hl⟩
          · rw [upd_same, List.map_append]
            rfl
          · rw [List.flatten_append, List.length_append, lf]
            rfl
          · rw [List.length_append, ll]
            rfl
        · rintro G2 ⟨ls, hG2, lf, ll, DG2, hl⟩
          walk_at "pw"
          refine r_join (SqL.of hG2) (by omega) ?_
          walk_at "pw"
          refine ⟨d, c, _, rfl, DG2, by omega, fun z19 H19 k19 D19 => ?_⟩
          have hl19 := k19 _ _ n15d hl
          walk_at "pw"
          refine newL (by simp) fun l20 H20 nl20 hl20 s20 => ?_
          walk_at "pw"
          refine r_cat (s20 _ _ hl19) hl20 (by simp only [List.length_map, List.length_cons, List.length_nil, z2n]; decide) (newC fun l21 H21 nl21 hl21 s21 => ?_)
          have e21 : zs2.map V.str ++ [V.str (S ls.flatten), V.str (S [z19])] = (zs2 ++ [S ls.flatten, S [z19]]).map V.str := by simp
          rw [e21] at hl21
          have z3l : ∀ z ∈ zs2 ++ [S ls.flatten, S [z19]], z.length ≤ 500 := fun z h => by
            rcases List.mem_append.mp h with h | h
            · exact z2l z h
            · simp only [List.mem_cons, List.not_mem_nil, or_false] at h
              rcases h with rfl | rfl
              · rw [S_len]; omega
              · rw [S_len]; show 1 ≤ 500; decide
          walk_at "pw"
          refine r_exL (SqL.of hl21) ?_
          intro l22 nl22
          refine lc_list (xs := (zs2 ++ [S ls.flatten, S [z19]]).map V.str) (fun i G => G l22 = some (.lst []) ∧ Same H21 G) ⟨upd_same, same_new nl22⟩ (fun i G _ ⟨_, s'⟩ => SqL.of (s' _ _ hl21)) ?_ ?_
          · rintro i3 y G3 hy ⟨hG3, sG3⟩
            obtain ⟨z, hz3, rfl⟩ := List.mem_map.mp (List.mem_of_getElem? hy)
            have zl := z3l z hz3
            walk_at "pw"
            refine ⟨rfl, ?_⟩
            walk_at "pw"
            refine ⟨z.cps.toList, by rw [← toS], by rw [toS z, S_len] at zl; omega, fun H' s' => ?_⟩
            walk_at "pw"
            exact ⟨s' _ _ hG3, sG3.trans s'⟩
          · rintro G3 ⟨hG3, sG3⟩
            walk_at "pw"
            refine newL (by simp) fun l23 H23 nl23 hl23 s23 => ?_
            refine r_neDL (ns := []) (ms := []) (SqL.of (s23 _ _ hG3)) (SqL.of hl23) ?_
            walk_at "pw"
            refine r_iteN (fun z => absurd rfl z) (fun _ => ?_)
            walk_at "pw"
            exact ⟨_, _, _, _, _, _, rfl, ((((D19.same s20).same s21).same sG3).same s23).mono (by omega)⟩
    · rintro σ H2 ⟨v2, v3, v4, v5, v6, v7, rfl, D2⟩
      walk_at "pw"
      rw [show ("x" : Str) = S [120] from by decide +kernel]
      refine r_repS (by decide) (by decide) ?_
      walk_at "pw"
      refine r_catX (by rw [S_len, List.length_replicate, lc2]; decide) ?_
      walk_at "pw"
      refine newL (by simp) fun l3 H3 nl3 hl3 s3 => ?_
      walk_at "pw"
      refine ⟨_, _, _, _, rfl, by decide, by decide, D2.same s3, by omega, fun r4 H4 r40 r41 k4 D4 => ?_⟩
      have hl4 := k4 _ _ (D2.ne nl3) hl3
      obtain ⟨xs, hxs, hxT⟩ : ∃ xs, H4 l3 = some (.lst xs) ∧ ∀ i : Int, 0 ≤ i → i < 4 → ∃ T : Str, atI xs i = some (.str T) := ⟨_, hl4, fun i h0 h1 => by
        have : i = 0 ∨ i = 1 ∨ i = 2 ∨ i = 3 := by omega
        rcases this with rfl | rfl | rfl | rfl <;> exact ⟨_, rfl⟩⟩
      obtain ⟨T, hT⟩ := hxT r4 r40 r41
      clear hl4
      walk_at "pw"
      refine r_ixL (SqL.of hxs) hT ?_
      walk_at "pw"
      intro t5 a5 nt5 na5 ne5
      walk_at "pw"
      refine ⟨a5, t5, CA, T, rfl, upd_same, by rw [upd_ne ne5.symm]; exact upd_same, strA, subA, ?_⟩
      have s5 : Same H4 (upd (upd H4 t5 (.tup [.str T])) a5 (exS CA t5 a5)) := (same_new nt5).trans (same_new (by rw [upd_ne ne5]; exact na5))
      have D5 := D4.same s5
      generalize upd (upd H4 t5 (.tup [.str T])) a5 (exS CA t5 a5) = H5 at D5 ⊢
      walk_at "pw"
      refine r_iteN (fun z => absurd rfl z) (fun _ => ?_)
      walk_at "pw"
      refine erV_in T_NoNumber.1.o T_NoNumber.1.no (i := 7) (by decide) (fun R r => r) fun du ndu au nau => ?_
      have hdu : upd (upd H5 du (.xd [("place", .int 7)])) au (exK (.ref CN) (some du) au) du = some (.xd [("place", .int 7)]) := same_new nau _ _ upd_same
      have anu : AnEx (upd (upd H5 du (.xd [("place", .int 7)])) au (exK (.ref CN) (some du) au)) (.ref au) CN (some du) := ⟨au, _, rfl, upd_same, exK_says, .xd hdu⟩
      generalize upd (upd H5 du (.xd [("place", .int 7)])) au (exK (.ref CN) (some du) au) = HGu at hdu anu ⊢
      walk_at "pw"
      refine ⟨_, du, 7, rfl, .inl ⟨anu, hdu, fun pu Hpu su hpu => ?_⟩⟩
      walk_at "pw"
      refine newT (by simp) fun qu Hqu nqu hqu tu => ?_
      walk_at "pw"
      refine r_neSI (SqT.of (tu _ _ hpu)) (SqT.of hqu) ?_
      walk_at "pw"
      refine erV_in T_NoFactor.1.o T_NoFactor.1.no (i := (-9)) (by decide) (fun R r => ⟨9, rfl, r⟩) fun dv ndv av nav => ?_
      have hdv : upd (upd Hqu dv (.xd [("number", .int (-9))])) av (exK (.ref CF) (some dv) av) dv = some (.xd [("number", .int (-9))]) := same_new nav _ _ upd_same
      have anv : AnEx (upd (upd Hqu dv (.xd [("number", .int (-9))])) av (exK (.ref CF) (some dv) av)) (.ref av) CF (some dv) := ⟨av, _, rfl, upd_same, exK_says, .xd hdv⟩
      generalize upd (upd Hqu dv (.xd [("number", .int (-9))])) av (exK (.ref CF) (some dv) av) = HGv at hdv anv ⊢
      walk_at "pw"
      refine ⟨_, dv, (-9), rfl, .inr ⟨anv, hdv, fun pv Hpv sv hpv => ?_⟩⟩
      walk_at "pw"
      refine newT (by simp) fun qv Hqv nqv hqv tv => ?_
      walk_at "pw"
      refine r_neSI (SqT.of (tv _ _ hpv)) (SqT.of hqv) ?_
      walk_at "pw"
      rw [show ("~" : Str) = S [126] from by decide +kernel]
      refine r_repS (by decide) (by decide) ?_
      walk_at "pw"
      refine newL (by simp) fun l30 H30 nl30 hl30 s30 => ?_
      obtain ⟨zs, ez, zl⟩ : ∃ zs : List Str, [V.str (S []), V.str (Str.ofString " "), V.str (Str.ofString "\n"), V.str (S [48]), V.str (Str.ofString "00"), V.str (Str.ofString "0^"), V.str (S [48, 94, 48]), V.str (S [94]), V.str (Str.ofString "5^201"), V.str (Str.ofString "5^200"), V.str (Str.ofString "5^0200"), V.str (Str.ofString "5^3^2"), V.str (Str.ofString "1 2"), V.str (S (List.replicate (Int.toNat 200) 126))] = zs.map V.str ∧ ∀ z ∈ zs, z.length ≤ 500 :=
        ⟨[S [], Str.ofString " ", Str.ofString "\n", S [48], Str.ofString "00", Str.ofString "0^", S [48, 94, 48], S [94], Str.ofString "5^201", Str.ofString "5^200", Str.ofString "5^0200", Str.ofString "5^3^2", Str.ofString "1 2", S (List.replicate (Int.toNat 200) 126)], rfl, by decide +kernel⟩
      rw [ez] at hl30
      walk_at "pw"
      refine r_exL (SqL.of hl30) ?_
      intro l31 nl31
      refine lc_list (xs := zs.map V.str) (fun i G => G l31 = some (.lst []) ∧ Same H30 G) ⟨upd_same, same_new nl31⟩ (fun i G _ ⟨_, s'⟩ => SqL.of (s' _ _ hl30)) ?_ ?_
      · rintro i3 y G3 hy ⟨hG3, sG3⟩
        obtain ⟨z, hz3, rfl⟩ := List.mem_map.mp (List.mem_of_getElem? hy)
        have zl3 := zl z hz3
        walk_at "pw"
        refine ⟨rfl, ?_⟩
        walk_at "pw"
        refine ⟨z.cps.toList, by rw [← toS], by rw [toS z, S_len] at zl3; omega, fun H' s' => ?_⟩
        walk_at "pw"
        exact ⟨s' _ _ hG3, sG3.trans s'⟩
      · rintro G3 ⟨hG3, sG3⟩
        walk_at "pw"
        refine newL (by simp) fun l32 H32 nl32 hl32 s32 => ?_
        refine r_eqDL (ns := []) (ms := []) (SqL.of (s32 _ _ hG3)) (SqL.of hl32) ?_
        exact q _
end
end K03

namespace K03
open PySem PySem.Spec PyProof.Rows L2 Pw SX
theorem kitO {K : PySem.W.Frag} {D C : Addr} {b : Bool} (ic : PySem.W.isClsIn K C = true) (tc : PySem.W.typeIn K (.ref C) = some (.type "type")) (ss : PySem.W.subIn K (.ref C) (.ref C) = some true) (s : PySem.W.subIn K (.ref D) (.ref C) = some b) : PySem.W.kitOne K (.ref D) (.ref C) = some b := by
  unfold PySem.W.kitOne
  by_cases h : (Value.ref D == Value.ref C) = true
  · rw [if_pos h]
    have e := eq_of_beq h
    rw [e, ss] at s
    exact s
  · rw [if_neg h]
    unfold PySem.W.kitCls
    have e : ((PySem.W.clsIn K C).isSome && PySem.W.typeIn K (.ref C) == some (.type "type")) = true := by
      rw [tc, show (PySem.W.clsIn K C).isSome = true from ic]
      rfl
    show (if ((PySem.W.clsIn K C).isSome && PySem.W.typeIn K (.ref C) == some (.type "type")) = true then PySem.W.subIn K (.ref D) (.ref C) else none) = some b
    rw [if_pos e]
    exact s
theorem kitT {K : PySem.W.Frag} {D : Addr} {T : String} {b : Bool} (s : PySem.W.subIn K (.ref D) (.type T) = some b) (m : PySem.W.kitMeta T = true) : PySem.W.kitOne K (.ref D) (.type T) = some b := by
  unfold PySem.W.kitOne
  rw [if_neg (by intro h; have := eq_of_beq h; cases this)]
  show (if PySem.W.kitMeta T = true then PySem.W.subIn K (.ref D) (.type T) else none) = some b
  rw [if_pos m]
  exact s
theorem exmO {K : PySem.W.Frag} {D C : Addr} (sb : PySem.W.subIn K (.ref C) (.type "BaseException") = some true) (ic : PySem.W.isClsIn K C = true) (tc : PySem.W.typeIn K (.ref C) = some (.type "type")) (s : PySem.W.subIn K (.ref D) (.ref C) = some true) : PySem.W.exmOne K (.ref D) (.ref C) = some true := by
  unfold PySem.W.exmOne
  rw [sb, if_pos (by rfl)]
  unfold PySem.W.kitCls
  have e : ((PySem.W.clsIn K C).isSome && PySem.W.typeIn K (.ref C) == some (.type "type")) = true := by
    rw [tc, show (PySem.W.clsIn K C).isSome = true from ic]
    rfl
  show (if ((PySem.W.clsIn K C).isSome && PySem.W.typeIn K (.ref C) == some (.type "type")) = true then PySem.W.subIn K (.ref D) (.ref C) else none) = some true
  rw [if_pos e]
  exact s
section
theorem all_mk {l : PySem.W.OpenLaw} {w : World} {K : PySem.W.Frag} {h : Heap} {mg : Str → Option Value} {fa : Addr} (X : K.In h) (G : h.Ns mainGlobals mg) (hfa : mg "law" = some (.ref fa))
    {od0 an0 : Option Addr} {sl0 : Array (Option Value)} {oc0 kV0 dc0 pm0 cd0 ct0 : Value} {f0 : Addr}
    (a0 : PySem.W.nsIn K mainGlobals "taken" = some (some (.ref f0))) (l0 : K.lookup f0 = some ⟨oc0, od0, .func (PySem.W.fnOf "taken" "taken" (defArgs s_taken) (defBody s_taken) (defScope s_taken) .none kV0 dc0 pm0 an0 cd0 ct0), sl0⟩) (c0 : PySem.W.codeIn K cd0 "taken" = true) (k0 : PySem.W.keepIn K (.ref f0) = true)
    {od1 an1 : Option Addr} {sl1 : Array (Option Value)} {oc1 kV1 dc1 pm1 cd1 ct1 : Value} {f1 : Addr}
    (a1 : PySem.W.nsIn K mainGlobals "read_number" = some (some (.ref f1))) (l1 : K.lookup f1 = some ⟨oc1, od1, .func (PySem.W.fnOf "read_number" "read_number" (defArgs s_read_number) (defBody s_read_number) (defScope s_read_number) .none kV1 dc1 pm1 an1 cd1 ct1), sl1⟩) (c1 : PySem.W.codeIn K cd1 "read_number" = true) (k1 : PySem.W.keepIn K (.ref f1) = true)
    {od2 an2 : Option Addr} {sl2 : Array (Option Value)} {oc2 kV2 dc2 pm2 cd2 ct2 : Value} {f2 : Addr}
    (a2 : PySem.W.nsIn K mainGlobals "_figures_end" = some (some (.ref f2))) (l2 : K.lookup f2 = some ⟨oc2, od2, .func (PySem.W.fnOf "_figures_end" "_figures_end" (defArgs s_figures_end) (defBody s_figures_end) (defScope s_figures_end) .none kV2 dc2 pm2 an2 cd2 ct2), sl2⟩) (c2 : PySem.W.codeIn K cd2 "_figures_end" = true) (k2 : PySem.W.keepIn K (.ref f2) = true)
    {od3 an3 : Option Addr} {sl3 : Array (Option Value)} {oc3 kV3 dc3 pm3 cd3 ct3 : Value} {f3 : Addr}
    (a3 : PySem.W.nsIn K mainGlobals "_worth" = some (some (.ref f3))) (l3 : K.lookup f3 = some ⟨oc3, od3, .func (PySem.W.fnOf "_worth" "_worth" (defArgs s_worth) (defBody s_worth) (defScope s_worth) .none kV3 dc3 pm3 an3 cd3 ct3), sl3⟩) (c3 : PySem.W.codeIn K cd3 "_worth" = true) (k3 : PySem.W.keepIn K (.ref f3) = true)
    {od4 an4 : Option Addr} {sl4 : Array (Option Value)} {oc4 kV4 dc4 pm4 cd4 ct4 : Value} {f4 : Addr}
    (a4 : PySem.W.nsIn K mainGlobals "_law_mix" = some (some (.ref f4))) (l4 : K.lookup f4 = some ⟨oc4, od4, .func (PySem.W.fnOf "_law_mix" "_law_mix" (defArgs s_law_mix) (defBody s_law_mix) (defScope s_law_mix) .none kV4 dc4 pm4 an4 cd4 ct4), sl4⟩) (c4 : PySem.W.codeIn K cd4 "_law_mix" = true) (k4 : PySem.W.keepIn K (.ref f4) = true)
    {od5 an5 : Option Addr} {sl5 : Array (Option Value)} {oc5 kV5 dc5 pm5 cd5 ct5 : Value} {f5 : Addr}
    (a5 : PySem.W.nsIn K mainGlobals "_law_deck" = some (some (.ref f5))) (l5 : K.lookup f5 = some ⟨oc5, od5, .func (PySem.W.fnOf "_law_deck" "_law_deck" (defArgs s_law_deck) (defBody s_law_deck) (defScope s_law_deck) .none kV5 dc5 pm5 an5 cd5 ct5), sl5⟩) (c5 : PySem.W.codeIn K cd5 "_law_deck" = true) (k5 : PySem.W.keepIn K (.ref f5) = true)
    {od6 an6 : Option Addr} {sl6 : Array (Option Value)} {oc6 kV6 dc6 pm6 cd6 ct6 : Value} {f6 : Addr}
    (a6 : PySem.W.nsIn K mainGlobals "_law_next" = some (some (.ref f6))) (l6 : K.lookup f6 = some ⟨oc6, od6, .func (PySem.W.fnOf "_law_next" "_law_next" (defArgs s_law_next) (defBody s_law_next) (defScope s_law_next) .none kV6 dc6 pm6 an6 cd6 ct6), sl6⟩) (c6 : PySem.W.codeIn K cd6 "_law_next" = true) (k6 : PySem.W.keepIn K (.ref f6) = true)
    {od7 an7 : Option Addr} {sl7 : Array (Option Value)} {oc7 kV7 dc7 pm7 cd7 ct7 : Value} {f7 : Addr}
    (a7 : PySem.W.nsIn K mainGlobals "_law_great" = some (some (.ref f7))) (l7 : K.lookup f7 = some ⟨oc7, od7, .func (PySem.W.fnOf "_law_great" "_law_great" (defArgs s_law_great) (defBody s_law_great) (defScope s_law_great) .none kV7 dc7 pm7 an7 cd7 ct7), sl7⟩) (c7 : PySem.W.codeIn K cd7 "_law_great" = true) (k7 : PySem.W.keepIn K (.ref f7) = true)
    {od8 an8 : Option Addr} {sl8 : Array (Option Value)} {oc8 kV8 dc8 pm8 cd8 ct8 : Value} {f8 : Addr}
    (a8 : PySem.W.nsIn K mainGlobals "_law_a_power" = some (some (.ref f8))) (l8 : K.lookup f8 = some ⟨oc8, od8, .func (PySem.W.fnOf "_law_a_power" "_law_a_power" (defArgs s_law_a_power) (defBody s_law_a_power) (defScope s_law_a_power) .none kV8 dc8 pm8 an8 cd8 ct8), sl8⟩) (c8 : PySem.W.codeIn K cd8 "_law_a_power" = true) (k8 : PySem.W.keepIn K (.ref f8) = true)
    {od9 an9 : Option Addr} {sl9 : Array (Option Value)} {oc9 kV9 dc9 pm9 cd9 ct9 : Value} {f9 : Addr}
    (a9 : PySem.W.nsIn K mainGlobals "_law_number" = some (some (.ref f9))) (l9 : K.lookup f9 = some ⟨oc9, od9, .func (PySem.W.fnOf "_law_number" "_law_number" (defArgs s_law_number) (defBody s_law_number) (defScope s_law_number) .none kV9 dc9 pm9 an9 cd9 ct9), sl9⟩) (c9 : PySem.W.codeIn K cd9 "_law_number" = true) (k9 : PySem.W.keepIn K (.ref f9) = true)
    {od10 an10 : Option Addr} {sl10 : Array (Option Value)} {oc10 kV10 dc10 pm10 cd10 ct10 : Value} {f10 : Addr}
    (a10 : PySem.W.nsIn K mainGlobals "_law_taken" = some (some (.ref f10))) (l10 : K.lookup f10 = some ⟨oc10, od10, .func (PySem.W.fnOf "_law_taken" "_law_taken" (defArgs s_law_taken) (defBody s_law_taken) (defScope s_law_taken) .none kV10 dc10 pm10 an10 cd10 ct10), sl10⟩) (c10 : PySem.W.codeIn K cd10 "_law_taken" = true) (k10 : PySem.W.keepIn K (.ref f10) = true)
    {od11 an11 : Option Addr} {sl11 : Array (Option Value)} {oc11 kV11 dc11 pm11 cd11 ct11 : Value} {f11 : Addr}
    (a11 : PySem.W.nsIn K mainGlobals "_law_is_whole" = some (some (.ref f11))) (l11 : K.lookup f11 = some ⟨oc11, od11, .func (PySem.W.fnOf "_law_is_whole" "_law_is_whole" (defArgs s_law_is_whole) (defBody s_law_is_whole) (defScope s_law_is_whole) .none kV11 dc11 pm11 an11 cd11 ct11), sl11⟩) (c11 : PySem.W.codeIn K cd11 "_law_is_whole" = true) (k11 : PySem.W.keepIn K (.ref f11) = true)
    {od12 an12 : Option Addr} {sl12 : Array (Option Value)} {oc12 kV12 dc12 pm12 cd12 ct12 : Value} {f12 : Addr}
    (a12 : PySem.W.nsIn K mainGlobals "_law_kind" = some (some (.ref f12))) (l12 : K.lookup f12 = some ⟨oc12, od12, .func (PySem.W.fnOf "_law_kind" "_law_kind" (defArgs s_law_kind) (defBody s_law_kind) (defScope s_law_kind) .none kV12 dc12 pm12 an12 cd12 ct12), sl12⟩) (c12 : PySem.W.codeIn K cd12 "_law_kind" = true) (k12 : PySem.W.keepIn K (.ref f12) = true)
    {od13 an13 : Option Addr} {sl13 : Array (Option Value)} {oc13 kV13 dc13 pm13 cd13 ct13 : Value} {f13 : Addr}
    (a13 : PySem.W.nsIn K mainGlobals "_law_sign" = some (some (.ref f13))) (l13 : K.lookup f13 = some ⟨oc13, od13, .func (PySem.W.fnOf "_law_sign" "_law_sign" (defArgs s_law_sign) (defBody s_law_sign) (defScope s_law_sign) .none kV13 dc13 pm13 an13 cd13 ct13), sl13⟩) (c13 : PySem.W.codeIn K cd13 "_law_sign" = true) (k13 : PySem.W.keepIn K (.ref f13) = true)
    {od14 an14 : Option Addr} {sl14 : Array (Option Value)} {oc14 kV14 dc14 pm14 cd14 ct14 : Value} {f14 : Addr}
    (a14 : PySem.W.nsIn K mainGlobals "_law_spoilt" = some (some (.ref f14))) (l14 : K.lookup f14 = some ⟨oc14, od14, .func (PySem.W.fnOf "_law_spoilt" "_law_spoilt" (defArgs s_law_spoilt) (defBody s_law_spoilt) (defScope s_law_spoilt) .none kV14 dc14 pm14 an14 cd14 ct14), sl14⟩) (c14 : PySem.W.codeIn K cd14 "_law_spoilt" = true) (k14 : PySem.W.keepIn K (.ref f14) = true)
    {od15 an15 : Option Addr} {sl15 : Array (Option Value)} {oc15 kV15 dc15 pm15 cd15 ct15 : Value} {f15 : Addr}
    (a15 : PySem.W.nsIn K mainGlobals "_law_run" = some (some (.ref f15))) (l15 : K.lookup f15 = some ⟨oc15, od15, .func (PySem.W.fnOf "_law_run" "_law_run" (defArgs s_law_run) (defBody s_law_run) (defScope s_law_run) .none kV15 dc15 pm15 an15 cd15 ct15), sl15⟩) (c15 : PySem.W.codeIn K cd15 "_law_run" = true) (k15 : PySem.W.keepIn K (.ref f15) = true)
    {od16 an16 : Option Addr} {sl16 : Array (Option Value)} {oc16 kV16 dc16 pm16 cd16 ct16 : Value} {f16 : Addr}
    (a16 : PySem.W.nsIn K mainGlobals "_law_due" = some (some (.ref f16))) (l16 : K.lookup f16 = some ⟨oc16, od16, .func (PySem.W.fnOf "_law_due" "_law_due" (defArgs s_law_due) (defBody s_law_due) (defScope s_law_due) .none kV16 dc16 pm16 an16 cd16 ct16), sl16⟩) (c16 : PySem.W.codeIn K cd16 "_law_due" = true) (k16 : PySem.W.keepIn K (.ref f16) = true)
    {od17 an17 : Option Addr} {sl17 : Array (Option Value)} {oc17 kV17 dc17 pm17 cd17 ct17 : Value} {f17 : Addr}
    (a17 : PySem.W.nsIn K mainGlobals "_law_right" = some (some (.ref f17))) (l17 : K.lookup f17 = some ⟨oc17, od17, .func (PySem.W.fnOf "_law_right" "_law_right" (defArgs s_law_right) (defBody s_law_right) (defScope s_law_right) .none kV17 dc17 pm17 an17 cd17 ct17), sl17⟩) (c17 : PySem.W.codeIn K cd17 "_law_right" = true) (k17 : PySem.W.keepIn K (.ref f17) = true)
    {od18 an18 : Option Addr} {sl18 : Array (Option Value)} {oc18 kV18 dc18 pm18 cd18 ct18 : Value} {f18 : Addr}
    (a18 : PySem.W.nsIn K mainGlobals "law" = some (some (.ref f18))) (l18 : K.lookup f18 = some ⟨oc18, od18, .func (PySem.W.fnOf "law" "law" (defArgs s_law) (defBody s_law) (defScope s_law) .none kV18 dc18 pm18 an18 cd18 ct18), sl18⟩) (c18 : PySem.W.codeIn K cd18 "law" = true) (k18 : PySem.W.keepIn K (.ref f18) = true)
    {CNA : Addr} (aNA : PySem.W.nsIn K mainGlobals "NoAsk" = some (some (.ref CNA)))
    {CNF : Addr} (aNF : PySem.W.nsIn K mainGlobals "NoFactor" = some (some (.ref CNF)))
    {CNN : Addr} (aNN : PySem.W.nsIn K mainGlobals "NoNumber" = some (some (.ref CNN)))
    {CCP : Addr} (aCP : PySem.W.nsIn K mainGlobals "PowerError" = some (some (.ref CCP)))
    (icNA : PySem.W.isClsIn K CNA = true) (tcNA : PySem.W.typeIn K (.ref CNA) = some (.type "type")) (ssNA : PySem.W.subIn K (.ref CNA) (.ref CNA) = some true)
    (icNF : PySem.W.isClsIn K CNF = true) (tcNF : PySem.W.typeIn K (.ref CNF) = some (.type "type")) (ssNF : PySem.W.subIn K (.ref CNF) (.ref CNF) = some true)
    (icNN : PySem.W.isClsIn K CNN = true) (tcNN : PySem.W.typeIn K (.ref CNN) = some (.type "type")) (ssNN : PySem.W.subIn K (.ref CNN) (.ref CNN) = some true)
    (icCP : PySem.W.isClsIn K CCP = true) (tcCP : PySem.W.typeIn K (.ref CCP) = some (.type "type")) (ssCP : PySem.W.subIn K (.ref CCP) (.ref CCP) = some true)
    (sNNNA : PySem.W.subIn K (.ref CNN) (.ref CNA) = some false)
    (sNNNF : PySem.W.subIn K (.ref CNN) (.ref CNF) = some false)
    (sNNCP : PySem.W.subIn K (.ref CNN) (.ref CCP) = some true)
    (svNN : PySem.W.subIn K (.ref CNN) (.type "ValueError") = some true)
    (sNFNA : PySem.W.subIn K (.ref CNF) (.ref CNA) = some false)
    (sNFNN : PySem.W.subIn K (.ref CNF) (.ref CNN) = some false)
    (sNFCP : PySem.W.subIn K (.ref CNF) (.ref CCP) = some true)
    (svNF : PySem.W.subIn K (.ref CNF) (.type "ValueError") = some true)
    (sbCP : PySem.W.subIn K (.ref CCP) (.type "BaseException") = some true)
    {nmNN qNN : Str} {NNN : Addr} {bsNN : List Value} {snNN : List Str} {subNN : List Value} {abNN : Bool} {colNN : Option Bool} {ddNN : Option Addr} {m0NN m1NN m2NN m3NN m5NN : Option Value}
    (xLNN : K.lookup CNN = some (excClassObj nmNN qNN CNN NNN bsNN [.ref CCP, .type "ValueError", .type "Exception", .type "BaseException", .type "object"] true snNN subNN abNN colNN ddNN m0NN m1NN m2NN m3NN m5NN "ValueError.__new__"))
    (saNN : PySem.W.findIn K (.ref CNN) "__setattr__" = some (some (.builtin "object.__setattr__"))) (gaNN : PySem.W.findIn K (.ref CNN) "__getattribute__" = some (some (.builtin "BaseException.__getattribute__"))) (ggNN : PySem.W.findIn K (.ref CNN) "__getattr__" = some none) (nbNN : PySem.W.findIn K (.ref CNN) "place" = some none)
    (kCNN : PySem.W.keepIn K (.ref CNN) = true) (eCNN : PySem.W.subIn K (.ref CNN) (.type "BaseException") = some true) (hCNN : PySem.W.hasDictIn K CNN = true) (hkNN : PySem.W.findIn K (.ref CNN) "__class__" = some (some (.builtin "object.__class__"))) (hmNN : PySem.W.mroIn K CNN (.type "object") = some true)
    {nmNF qNF : Str} {NNF : Addr} {bsNF : List Value} {snNF : List Str} {subNF : List Value} {abNF : Bool} {colNF : Option Bool} {ddNF : Option Addr} {m0NF m1NF m2NF m3NF m5NF : Option Value}
    (xLNF : K.lookup CNF = some (excClassObj nmNF qNF CNF NNF bsNF [.ref CCP, .type "ValueError", .type "Exception", .type "BaseException", .type "object"] true snNF subNF abNF colNF ddNF m0NF m1NF m2NF m3NF m5NF "ValueError.__new__"))
    (saNF : PySem.W.findIn K (.ref CNF) "__setattr__" = some (some (.builtin "object.__setattr__"))) (gaNF : PySem.W.findIn K (.ref CNF) "__getattribute__" = some (some (.builtin "BaseException.__getattribute__"))) (ggNF : PySem.W.findIn K (.ref CNF) "__getattr__" = some none) (nbNF : PySem.W.findIn K (.ref CNF) "number" = some none)
    (kCNF : PySem.W.keepIn K (.ref CNF) = true) (eCNF : PySem.W.subIn K (.ref CNF) (.type "BaseException") = some true) (hCNF : PySem.W.hasDictIn K CNF = true) (hkNF : PySem.W.findIn K (.ref CNF) "__class__" = some (some (.builtin "object.__class__"))) (hmNF : PySem.W.mroIn K CNF (.type "object") = some true)
    (hnO : PySem.W.specialIn K (.builtin "object.__class__") "__get__" = some (some (.builtin "getset_descriptor.__get__"))) (htO : PySem.W.takesIn K (.builtin "object.__class__") = some true)
    {fINN : Addr} {odINN anINN : Option Addr} {slINN : Array (Option Value)} {ocINN kVINN dcINN pmINN cdINN ctINN : Value} (aINN : PySem.W.findIn K (.ref CNN) "__init__" = some (some (.ref fINN))) (tINN : PySem.W.typeIn K (.ref fINN) = some (.type "function"))
    (lINN : K.lookup fINN = some ⟨ocINN, odINN, .func (PySem.W.fnOf "__init__" "NoNumber.__init__" (defArgs s_NNi) (defBody s_NNi) (defScope s_NNi) .none kVINN dcINN pmINN anINN cdINN ctINN), slINN⟩) (cINN : PySem.W.codeIn K cdINN "NoNumber.__init__" = true) (kINN : PySem.W.keepIn K (.ref fINN) = true)
    {fINF : Addr} {odINF anINF : Option Addr} {slINF : Array (Option Value)} {ocINF kVINF dcINF pmINF cdINF ctINF : Value} (aINF : PySem.W.findIn K (.ref CNF) "__init__" = some (some (.ref fINF))) (tINF : PySem.W.typeIn K (.ref fINF) = some (.type "function"))
    (lINF : K.lookup fINF = some ⟨ocINF, odINF, .func (PySem.W.fnOf "__init__" "NoFactor.__init__" (defArgs s_NFi) (defBody s_NFi) (defScope s_NFi) .none kVINF dcINF pmINF anINF cdINF ctINF), slINF⟩) (cINF : PySem.W.codeIn K cdINF "NoFactor.__init__" = true) (kINF : PySem.W.keepIn K (.ref fINF) = true)
    (qNA : PySem.W.excIn K CNA [.type "ValueError", .type "Exception", .type "BaseException", .type "object"] "ValueError.__new__" = true) (kNA : PySem.W.keepIn K (.ref CNA) = true) (stNA : PySem.W.findIn K (.ref CNA) "__str__" = some (some (.builtin "BaseException.__str__"))) (sbNA : PySem.W.subIn K (.ref CNA) (.type "BaseException") = some true)
    (rdP : PySem.W.readsIn K CCP (.type "type") = true) (gaP : PySem.W.specialIn K (.ref CCP) "__getattribute__" = some (some (.builtin "type.__getattribute__"))) (aP : PySem.W.findCls K (.ref CCP) (.type "type") "__init__" = some (.val (.builtin "ValueError.__init__")))
    (zV : PySem.W.nsIn K mainGlobals "ValueError" = some none)
    (z_len : PySem.W.nsIn K mainGlobals "len" = some none)
    (z_range : PySem.W.nsIn K mainGlobals "range" = some none)
    (z_sum : PySem.W.nsIn K mainGlobals "sum" = some none)
    (z_min : PySem.W.nsIn K mainGlobals "min" = some none)
    (z_max : PySem.W.nsIn K mainGlobals "max" = some none)
    (z_reversed : PySem.W.nsIn K mainGlobals "reversed" = some none)
    (z_isinstance : PySem.W.nsIn K mainGlobals "isinstance" = some none)
    (z_int : PySem.W.nsIn K mainGlobals "int" = some none)
    (z_bool : PySem.W.nsIn K mainGlobals "bool" = some none)
    (z_tuple : PySem.W.nsIn K mainGlobals "tuple" = some none)
    (z_list : PySem.W.nsIn K mainGlobals "list" = some none)
    (z_str : PySem.W.nsIn K mainGlobals "str" = some none)
    (z_sorted : PySem.W.nsIn K mainGlobals "sorted" = some none)
    (z_divmod : PySem.W.nsIn K mainGlobals "divmod" = some none)
    (z_enumerate : PySem.W.nsIn K mainGlobals "enumerate" = some none)
    (z_abs : PySem.W.nsIn K mainGlobals "abs" = some none)
    (z_zip : PySem.W.nsIn K mainGlobals "zip" = some none)
    (z_set : PySem.W.nsIn K mainGlobals "set" = some none)
    (z_dict : PySem.W.nsIn K mainGlobals "dict" = some none)
    {tk_FIGURES : Tok} (y_FIGURES : PySem.W.nsIn K mainGlobals "FIGURES" = some (some (.str "0123456789" tk_FIGURES)))
    {tk_MOST_EXPONENT : Tok} (y_MOST_EXPONENT : PySem.W.nsIn K mainGlobals "MOST_EXPONENT" = some (some (.int 200 tk_MOST_EXPONENT))) :
    ∃ fd : FuncData, (∀ (s : Shared) (v : Value), BindsTo s fd ⟨[v], []⟩ [("script", v)]) ∧ ∀ base : Heap, K.In base → base.Ns mainGlobals mg → FnOk l.prog w K mg base CX0 6 fa fd ["script"] (spLaw K) := by
  have e := hfa.symm.trans (PySem.W.mg_of X G a18)
  cases e
  have B : Bl mg := ⟨PySem.W.mg_none_of X G z_len, PySem.W.mg_none_of X G z_range, PySem.W.mg_none_of X G z_sum, PySem.W.mg_none_of X G z_min, PySem.W.mg_none_of X G z_max, PySem.W.mg_none_of X G z_reversed, PySem.W.mg_none_of X G z_isinstance, PySem.W.mg_none_of X G z_int, PySem.W.mg_none_of X G z_bool, PySem.W.mg_none_of X G z_tuple, PySem.W.mg_none_of X G z_list, PySem.W.mg_none_of X G z_str, PySem.W.mg_none_of X G z_sorted, PySem.W.mg_none_of X G z_divmod, PySem.W.mg_none_of X G z_enumerate, PySem.W.mg_none_of X G z_abs, PySem.W.mg_none_of X G z_zip, PySem.W.mg_none_of X G z_set, PySem.W.mg_none_of X G z_dict⟩
  have M_FIGURES := PySem.W.mg_of X G y_FIGURES
  have M_MOST_EXPONENT := PySem.W.mg_of X G y_MOST_EXPONENT
  have P_taken : Pl K mg "taken" s_taken ["base", "exponent"] := pl_mk X G a0 l0 c0 k0 fun _ _ _ _ _ _ us hl => match us, hl with | [_, _], _ => rfl
  have P_read_number : Pl K mg "read_number" s_read_number ["text"] := pl_mk X G a1 l1 c1 k1 fun _ _ _ _ _ _ us hl => match us, hl with | [_], _ => rfl
  have P_figures_end : Pl K mg "_figures_end" s_figures_end ["text", "start"] := pl_mk X G a2 l2 c2 k2 fun _ _ _ _ _ _ us hl => match us, hl with | [_, _], _ => rfl
  have P_worth : Pl K mg "_worth" s_worth ["figures"] := pl_mk X G a3 l3 c3 k3 fun _ _ _ _ _ _ us hl => match us, hl with | [_], _ => rfl
  have P_law_mix : Pl K mg "_law_mix" s_law_mix ["cell", "k"] := pl_mk X G a4 l4 c4 k4 fun _ _ _ _ _ _ us hl => match us, hl with | [_, _], _ => rfl
  have P_law_deck : Pl K mg "_law_deck" s_law_deck ["script"] := pl_mk X G a5 l5 c5 k5 fun _ _ _ _ _ _ us hl => match us, hl with | [_], _ => rfl
  have P_law_next : Pl K mg "_law_next" s_law_next ["deck", "many"] := pl_mk X G a6 l6 c6 k6 fun _ _ _ _ _ _ us hl => match us, hl with | [_, _], _ => rfl
  have P_law_great : Pl K mg "_law_great" s_law_great ["deck", "most"] := pl_mk X G a7 l7 c7 k7 fun _ _ _ _ _ _ us hl => match us, hl with | [_, _], _ => rfl
  have P_law_a_power : Pl K mg "_law_a_power" s_law_a_power ["deck", "most"] := pl_mk X G a8 l8 c8 k8 fun _ _ _ _ _ _ us hl => match us, hl with | [_, _], _ => rfl
  have P_law_number : Pl K mg "_law_number" s_law_number ["deck", "most"] := pl_mk X G a9 l9 c9 k9 fun _ _ _ _ _ _ us hl => match us, hl with | [_, _], _ => rfl
  have P_law_taken : Pl K mg "_law_taken" s_law_taken ["base", "exponent"] := pl_mk X G a10 l10 c10 k10 fun _ _ _ _ _ _ us hl => match us, hl with | [_, _], _ => rfl
  have P_law_is_whole : Pl K mg "_law_is_whole" s_law_is_whole ["found", "due"] := pl_mk X G a11 l11 c11 k11 fun _ _ _ _ _ _ us hl => match us, hl with | [_, _], _ => rfl
  have P_law_kind : Pl K mg "_law_kind" s_law_kind ["caught"] := pl_mk X G a12 l12 c12 k12 fun _ _ _ _ _ _ us hl => match us, hl with | [_], _ => rfl
  have P_law_sign : Pl K mg "_law_sign" s_law_sign ["deck"] := pl_mk X G a13 l13 c13 k13 fun _ _ _ _ _ _ us hl => match us, hl with | [_], _ => rfl
  have P_law_spoilt : Pl K mg "_law_spoilt" s_law_spoilt ["deck", "text"] := pl_mk X G a14 l14 c14 k14 fun _ _ _ _ _ _ us hl => match us, hl with | [_, _], _ => rfl
  have P_law_run : Pl K mg "_law_run" s_law_run ["text", "first"] := pl_mk X G a15 l15 c15 k15 fun _ _ _ _ _ _ us hl => match us, hl with | [_, _], _ => rfl
  have P_law_due : Pl K mg "_law_due" s_law_due ["text"] := pl_mk X G a16 l16 c16 k16 fun _ _ _ _ _ _ us hl => match us, hl with | [_], _ => rfl
  have P_law_right : Pl K mg "_law_right" s_law_right ["text"] := pl_mk X G a17 l17 c17 k17 fun _ _ _ _ _ _ us hl => match us, hl with | [_], _ => rfl
  have M_NoAsk := PySem.W.mg_of X G aNA
  have M_NoFactor := PySem.W.mg_of X G aNF
  have M_NoNumber := PySem.W.mg_of X G aNN
  have M_PowerError := PySem.W.mg_of X G aCP
  have M_ValueError := PySem.W.mg_none_of X G zV
  have TNN : ErrC K mg "NoNumber" CNN "place" := ⟨M_NoNumber, ⟨⟨_, _, _, _, _, _, _, _, _, _, _, _, _, _, _, xLNN, rfl⟩, saNN, eCNN, tcNN, kCNN⟩, nbNN, ⟨gaNN, ggNN, eCNN, hCNN⟩, ⟨gaNN, ggNN, eCNN, hCNN, hkNN, hnO, htO, hmNN⟩⟩
  have TNF : ErrC K mg "NoFactor" CNF "number" := ⟨M_NoFactor, ⟨⟨_, _, _, _, _, _, _, _, _, _, _, _, _, _, _, xLNF, rfl⟩, saNF, eCNF, tcNF, kCNF⟩, nbNF, ⟨gaNF, ggNF, eCNF, hCNF⟩, ⟨gaNF, ggNF, eCNF, hCNF, hkNF, hnO, htO, hmNF⟩⟩
  have GK : KindF K CNA CNF CNN CCP := ⟨kitO icNA tcNA ssNA sNNNA, kitO icNF tcNF ssNF sNNNF, kitO icNN tcNN ssNN ssNN, kitO icCP tcCP ssCP sNNCP, kitT svNN (by decide +kernel), kitO icNA tcNA ssNA sNFNA, kitO icNF tcNF ssNF ssNF, kitO icNN tcNN ssNN sNFNN, kitO icCP tcCP ssCP sNFCP, kitT svNF (by decide +kernel)⟩
  have hexN := exmO sbCP icCP tcCP sNNCP
  have FINN := fun_mk (st := s_NNi) lINN cINN kINN
  have bINN := FINN.binds (ps := ["self", "place"]) fun _ _ _ _ _ _ us hl => match us, hl with | [_, _], _ => rfl
  have FINF := fun_mk (st := s_NFi) lINF cINF kINF
  have bINF := FINF.binds (ps := ["self", "number"]) fun _ _ _ _ _ _ us hl => match us, hl with | [_, _], _ => rfl
  have F := fun_mk (st := s_law) l18 c18 k18
  refine ⟨PySem.W.fnOf "law" "law" (defArgs s_law) (defBody s_law) (defScope s_law) .none kV18 dc18 pm18 an18 cd18 ct18, fun s v => .of_eq rfl, fun base _ _ => ?_⟩
  have TI_NN : ErrI l.prog w K mg base "NoNumber" CNN "place" := ⟨TNN, fINN, _, aINN, tINN, ok_NNi FINN M_PowerError ⟨rdP, gaP⟩ aP, bINN⟩
  have TI_NF : ErrI l.prog w K mg base "NoFactor" CNF "number" := ⟨TNF, fINF, _, aINF, tINF, ok_NFi FINF M_PowerError ⟨rdP, gaP⟩ aP, bINF⟩
  have D1 := ok_taken (P := l.prog) (w := w) (base := base) P_taken B
  have D2 := ok_worth (P := l.prog) (w := w) (base := base) P_worth B
  have D3 := ok_figures_end P_figures_end B M_FIGURES TI_NN
  have D4 := ok_read_number P_read_number B M_MOST_EXPONENT TI_NN D3 D2 D1
  have D10 := ok_law_mix (P := l.prog) (w := w) (base := base) P_law_mix
  have D11 := ok_law_deck (P := l.prog) (w := w) (base := base) P_law_deck B
  have D12 := ok_law_next P_law_next B D10
  have D13 := ok_law_great P_law_great B D12
  have D14 := ok_law_a_power P_law_a_power B D12 D13
  have D15 := ok_law_number P_law_number B D12 D13 D14
  have D16 := ok_law_taken (P := l.prog) (w := w) (base := base) P_law_taken B
  have D17 := ok_law_is_whole (P := l.prog) (w := w) (base := base) P_law_is_whole B
  have D18 := ok_law_kind (P := l.prog) (w := w) (base := base) P_law_kind B M_ValueError M_NoAsk M_NoFactor M_NoNumber M_PowerError GK TNN TNF
  have D19 := ok_law_sign P_law_sign B D12
  have D20 := ok_law_spoilt P_law_spoilt B D12 D19
  have D21 := ok_law_run (P := l.prog) (w := w) (base := base) P_law_run B
  have D22 := ok_law_due P_law_due B D21 D16
  have D23 := ok_law_right (CA := CNA) P_law_right B M_PowerError hexN D4 D22 D18 D17
  exact ok_law (CP := CCP) F B PySem.F.excBase_ValueError qNA M_NoAsk kNA stNA sbNA TI_NN TI_NF D11 D12 D15 D19 D20 D23 D18
end
end K03
open PySem PySem.W PyProof.Rows
set_option maxRecDepth 100000 in
set_option maxHeartbeats 0 in
theorem PySem.Challenge.cw_powernumbers_k03_texts_of_no_numbers_holds : PySem.Challenge.rw_powernumbers_k03_texts_of_no_numbers.Holds := by
  w_on; o_law; k_head; (case hw => w_witness2)
  k_fill
  refine L2.walk_of (l := PySem.Challenge.rw_powernumbers_k03_texts_of_no_numbers) (n := 63) (k := 6) (x := "script") (CX := fun _ => L2.CX0) (sp := fun w => Pw.spLaw _) rfl (by decide) rfl ⟨rfl, by decide, by decide⟩ (fun w h Y => PySem.W.kIn_of Y) ?F (fun _ _ a ns hl _ hS => ⟨a, ns, rfl, hS, hl, fun _ => rfl⟩) (fun _ _ _ _ _ h => h)
  case F =>
    intro w mg fa h KX G hmg
    refine' K03.all_mk KX G hmg ?a0 ?l0 ?c0 ?k0 ?a1 ?l1 ?c1 ?k1 ?a2 ?l2 ?c2 ?k2 ?a3 ?l3 ?c3 ?k3 ?a4 ?l4 ?c4 ?k4 ?a5 ?l5 ?c5 ?k5 ?a6 ?l6 ?c6 ?k6 ?a7 ?l7 ?c7 ?k7 ?a8 ?l8 ?c8 ?k8 ?a9 ?l9 ?c9 ?k9 ?a10 ?l10 ?c10 ?k10 ?a11 ?l11 ?c11 ?k11 ?a12 ?l12 ?c12 ?k12 ?a13 ?l13 ?c13 ?k13 ?a14 ?l14 ?c14 ?k14 ?a15 ?l15 ?c15 ?k15 ?a16 ?l16 ?c16 ?k16 ?a17 ?l17 ?c17 ?k17 ?a18 ?l18 ?c18 ?k18 ?aNA ?aNF ?aNN ?aCP ?icNA ?tcNA ?ssNA ?icNF ?tcNF ?ssNF ?icNN ?tcNN ?ssNN ?icCP ?tcCP ?ssCP ?sNNNA ?sNNNF ?sNNCP ?svNN ?sNFNA ?sNFNN ?sNFCP ?svNF ?sbCP ?xLNN ?saNN ?gaNN ?ggNN ?nbNN ?kCNN ?eCNN ?hCNN ?hkNN ?hmNN ?xLNF ?saNF ?gaNF ?ggNF ?nbNF ?kCNF ?eCNF ?hCNF ?hkNF ?hmNF ?hnO ?htO ?aINN ?tINN ?lINN ?cINN ?kINN ?aINF ?tINF ?lINF ?cINF ?kINF ?qNA ?kNA ?stNA ?sbNA ?rdP ?gaP ?aP ?zV ?z_len ?z_range ?z_sum ?z_min ?z_max ?z_reversed ?z_isinstance ?z_int ?z_bool ?z_tuple ?z_list ?z_str ?z_sorted ?z_divmod ?z_enumerate ?z_abs ?z_zip ?z_set ?z_dict ?y_FIGURES ?y_MOST_EXPONENT
    (case a0 => k_is)
    (case l0 => k_is)
    (case c0 => k_is)
    (case k0 => k_is)
    (case a1 => k_is)
    (case l1 => k_is)
    (case c1 => k_is)
    (case k1 => k_is)
    (case a2 => k_is)
    (case l2 => k_is)
    (case c2 => k_is)
    (case k2 => k_is)
    (case a3 => k_is)
    (case l3 => k_is)
    (case c3 => k_is)
    (case k3 => k_is)
    (case a4 => k_is)
    (case l4 => k_is)
    (case c4 => k_is)
    (case k4 => k_is)
    (case a5 => k_is)
    (case l5 => k_is)
    (case c5 => k_is)
    (case k5 => k_is)
    (case a6 => k_is)
    (case l6 => k_is)
    (case c6 => k_is)
    (case k6 => k_is)
    (case a7 => k_is)
    (case l7 => k_is)
    (case c7 => k_is)
    (case k7 => k_is)
    (case a8 => k_is)
    (case l8 => k_is)
    (case c8 => k_is)
    (case k8 => k_is)
    (case a9 => k_is)
    (case l9 => k_is)
    (case c9 => k_is)
    (case k9 => k_is)
    (case a10 => k_is)
    (case l10 => k_is)
    (case c10 => k_is)
    (case k10 => k_is)
    (case a11 => k_is)
    (case l11 => k_is)
    (case c11 => k_is)
    (case k11 => k_is)
    (case a12 => k_is)
    (case l12 => k_is)
    (case c12 => k_is)
    (case k12 => k_is)
    (case a13 => k_is)
    (case l13 => k_is)
    (case c13 => k_is)
    (case k13 => k_is)
    (case a14 => k_is)
    (case l14 => k_is)
    (case c14 => k_is)
    (case k14 => k_is)
    (case a15 => k_is)
    (case l15 => k_is)
    (case c15 => k_is)
    (case k15 => k_is)
    (case a16 => k_is)
    (case l16 => k_is)
    (case c16 => k_is)
    (case k16 => k_is)
    (case a17 => k_is)
    (case l17 => k_is)
    (case c17 => k_is)
    (case k17 => k_is)
    (case a18 => k_is)
    (case l18 => k_is)
    (case c18 => k_is)
    (case k18 => k_is)
    (case aNA => k_is)
    (case aNF => k_is)
    (case aNN => k_is)
    (case aCP => k_is)
    (case icNA => k_is)
    (case tcNA => k_is)
    (case ssNA => k_is)
    (case icNF => k_is)
    (case tcNF => k_is)
    (case ssNF => k_is)
    (case icNN => k_is)
    (case tcNN => k_is)
    (case ssNN => k_is)
    (case icCP => k_is)
    (case tcCP => k_is)
    (case ssCP => k_is)
    (case sNNNA => k_is)
    (case sNNNF => k_is)
    (case sNNCP => k_is)
    (case svNN => k_is)
    (case sNFNA => k_is)
    (case sNFNN => k_is)
    (case sNFCP => k_is)
    (case svNF => k_is)
    (case sbCP => k_is)
    (case xLNN => k_is)
    (case saNN => k_is)
    (case gaNN => k_is)
    (case ggNN => k_is)
    (case nbNN => k_is)
    (case kCNN => k_is)
    (case eCNN => k_is)
    (case hCNN => k_is)
    (case hkNN => k_is)
    (case hmNN => k_is)
    (case xLNF => k_is)
    (case saNF => k_is)
    (case gaNF => k_is)
    (case ggNF => k_is)
    (case nbNF => k_is)
    (case kCNF => k_is)
    (case eCNF => k_is)
    (case hCNF => k_is)
    (case hkNF => k_is)
    (case hmNF => k_is)
    (case hnO => k_is)
    (case htO => k_is)
    (case aINN => k_is)
    (case tINN => k_is)
    (case lINN => k_is)
    (case cINN => k_is)
    (case kINN => k_is)
    (case aINF => k_is)
    (case tINF => k_is)
    (case lINF => k_is)
    (case cINF => k_is)
    (case kINF => k_is)
    (case qNA => k_exc)
    (case kNA => k_is)
    (case stNA => k_is)
    (case sbNA => k_is)
    (case rdP => k_is)
    (case gaP => k_is)
    (case aP => k_is)
    (case zV => k_is)
    (case z_len => k_is)
    (case z_range => k_is)
    (case z_sum => k_is)
    (case z_min => k_is)
    (case z_max => k_is)
    (case z_reversed => k_is)
    (case z_isinstance => k_is)
    (case z_int => k_is)
    (case z_bool => k_is)
    (case z_tuple => k_is)
    (case z_list => k_is)
    (case z_str => k_is)
    (case z_sorted => k_is)
    (case z_divmod => k_is)
    (case z_enumerate => k_is)
    (case z_abs => k_is)
    (case z_zip => k_is)
    (case z_set => k_is)
    (case z_dict => k_is)
    (case y_FIGURES => k_is)
    (case y_MOST_EXPONENT => k_is)
#print axioms PySem.Challenge.cw_powernumbers_k03_texts_of_no_numbers_holds
