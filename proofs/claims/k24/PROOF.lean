import PyProof.Rows.All
import HandS.ForMost
import HandS.Wide
import HandS.WideMore
import HandS.WideBits
import HandS.RevRange
import HandS.Gcd
import HandS.IsInst
import HandS.Steps
import HandS.Style
import HandS.StrMore
import Flt.RightSqrt
import HandS.Codes
import PyProof.Rows.StrPadWhole
import HandS.NoneIn
import HandS.Deep
import HandS.SortRule
import HandS.More
import HandS.SortInts
import HandS.SetFor
import KE.GoesMore
import HandS.Conv
import HandS.SetBool
import HandS.Strs
import HandS.Walk
import HandS.FStr
import PyProof.Rows.Digits
import HandS.Zip
import HandS.EndBits
import HandS.TupSets
import HandS.DictComp
import HandS.CallLocal
import PySem.Challenge.RW_powernumbers_k24_whole_kin
set_option Elab.async false
set_option linter.all false
set_option maxRecDepth 100000
set_option maxHeartbeats 4000000
set_option exponentiation.threshold 100000
/-! Roots and powers of naturals: Newton's steps, powers by bits. -/
namespace Pm
theorem two_mul_le_sq (r x : Nat) : 2 * (r * x) ≤ r * r + x * x := by
  rcases Nat.le_total r x with h | h
  · obtain ⟨d, rfl⟩ := Nat.exists_eq_add_of_le h
    have e : r * r + (r + d) * (r + d) = 2 * (r * (r + d)) + d * d := by
      simp only [Nat.mul_add, Nat.add_mul]
      have := Nat.mul_comm r d
      omega
    omega
  · obtain ⟨d, rfl⟩ := Nat.exists_eq_add_of_le h
    have e : (x + d) * (x + d) + x * x = 2 * ((x + d) * x) + d * d := by
      simp only [Nat.mul_add, Nat.add_mul]
      have := Nat.mul_comm x d
      omega
    omega
/-- (m + 1) r x ^ m ≤ r ^ (m + 1) + m x ^ (m + 1) -/
theorem bern (r x : Nat) : ∀ m : Nat, (m + 1) * (r * x ^ m) ≤ r ^ (m + 1) + m * x ^ (m + 1)
  | 0 => by simp
  | m + 1 => by
    have ih := Nat.mul_le_mul_left r (bern r x m)
    have sq := Nat.mul_le_mul_left ((m + 1) * x ^ m) (two_mul_le_sq r x)
    have e1 : r * ((m + 1) * (r * x ^ m)) = (m + 1) * x ^ m * (r * r) := by
      simp only [Nat.mul_comm, Nat.mul_left_comm, Nat.mul_assoc]
    have e2 : r * (r ^ (m + 1) + m * x ^ (m + 1)) = r ^ (m + 2) + m * (r * x ^ (m + 1)) := by
      rw [Nat.mul_add, Nat.pow_succ r (m + 1), Nat.mul_comm r (r ^ (m + 1)), Nat.mul_left_comm]
    have e3 : (m + 1) * x ^ m * (2 * (r * x)) = (m + 1) * (r * x ^ (m + 1)) + (m + 1) * (r * x ^ (m + 1)) := by
      rw [Nat.pow_succ x m]
      have : (m + 1) * x ^ m * (2 * (r * x)) = 2 * ((m + 1) * (r * (x ^ m * x))) := by
        simp only [Nat.mul_comm, Nat.mul_left_comm, Nat.mul_assoc]
      omega
    have e4 : (m + 1) * x ^ m * (r * r + x * x) = (m + 1) * x ^ m * (r * r) + (m + 1) * x ^ (m + 2) := by
      rw [Nat.mul_add, Nat.pow_succ x (m + 1), Nat.pow_succ x m]
      have : (m + 1) * x ^ m * (x * x) = (m + 1) * (x ^ m * x * x) := by
        simp only [Nat.mul_comm, Nat.mul_left_comm, Nat.mul_assoc]
      omega
    have e5 : (m + 1) * (r * x ^ (m + 1)) = m * (r * x ^ (m + 1)) + r * x ^ (m + 1) := Nat.succ_mul _ _
    have e6 : (m + 1 + 1) * (r * x ^ (m + 1)) = (m + 1) * (r * x ^ (m + 1)) + r * x ^ (m + 1) := Nat.succ_mul _ _
    show (m + 1 + 1) * (r * x ^ (m + 1)) ≤ r ^ (m + 2) + (m + 1) * x ^ (m + 2)
    omega
/-- Newton's step for the (m + 1)-th root -/
def step (n m x : Nat) : Nat := (m * x + n / x ^ m) / (m + 1)
theorem step_up {n m x : Nat} (hx : 0 < x) : n < (step n m x + 1) ^ (m + 1) := by
  refine Nat.lt_of_not_le fun h => ?_
  have b := bern (step n m x + 1) x m
  have hp : 0 < x ^ m := Nat.pow_pos hx
  have d1 : m * x + n / x ^ m < (m + 1) * (step n m x + 1) := by
    have := Nat.lt_mul_div_succ (m * x + n / x ^ m) (show 0 < m + 1 from Nat.succ_pos m)
    exact this
  have d2 : n < x ^ m * (n / x ^ m + 1) := Nat.lt_mul_div_succ n hp
  have d3 : x ^ m * (m * x + (n / x ^ m + 1)) ≤ x ^ m * ((m + 1) * (step n m x + 1)) := Nat.mul_le_mul_left _ d1
  have e1 : x ^ m * (m * x + (n / x ^ m + 1)) = m * x ^ (m + 1) + x ^ m * (n / x ^ m + 1) := by
    rw [Nat.mul_add, Nat.pow_succ x m]
    have : x ^ m * (m * x) = m * (x ^ m * x) := Nat.mul_left_comm _ _ _
    omega
  have e2 : x ^ m * ((m + 1) * (step n m x + 1)) = (m + 1) * ((step n m x + 1) * x ^ m) := by
    simp only [Nat.mul_comm, Nat.mul_left_comm, Nat.mul_assoc]
  omega
theorem step_down {n m x : Nat} (h : n < x ^ (m + 1)) : step n m x < x := by
  have hx : 0 < x := by
    rcases Nat.eq_zero_or_pos x with e | e
    · rw [e, Nat.zero_pow (Nat.succ_pos m)] at h
      exact absurd h (Nat.not_lt_zero _)
    · exact e
  have hq : n / x ^ m < x := Nat.div_lt_of_lt_mul (by rw [← Nat.pow_succ]; exact h)
  unfold step
  refine Nat.div_lt_of_lt_mul ?_
  rw [Nat.succ_mul]
  omega
theorem pow_lt_of_lt {a b k : Nat} (h : a < b) (hk : 0 < k) : a ^ k < b ^ k := Nat.pow_lt_pow_left h (Nat.pos_iff_ne_zero.mp hk)
theorem lt_of_pow_lt {a b k : Nat} (h : a ^ k < b ^ k) : a < b := Nat.lt_of_not_le fun g => absurd h (Nat.not_lt.mpr (Nat.pow_le_pow_left g k))
/-- r is the k-th root of n -/
def IsRoot (n k r : Nat) : Prop := r ^ k ≤ n ∧ n < (r + 1) ^ k
theorem IsRoot.uniq {n k r r' : Nat} (h : IsRoot n k r) (h' : IsRoot n k r') : r = r' := by
  have a := lt_of_pow_lt (Nat.lt_of_le_of_lt h.1 h'.2)
  have b := lt_of_pow_lt (Nat.lt_of_le_of_lt h'.1 h.2)
  omega
theorem root_ex (k : Nat) (hk : 0 < k) : ∀ n : Nat, ∃ r, IsRoot n k r
  | 0 => ⟨0, by rw [Nat.zero_pow hk]; exact Nat.le_refl _, by rw [Nat.zero_add, Nat.one_pow]; exact Nat.one_pos⟩
  | n + 1 => by
    obtain ⟨r, h1, h2⟩ := root_ex k hk n
    by_cases h : (r + 1) ^ k ≤ n + 1
    · refine ⟨r + 1, h, ?_⟩
      have := pow_lt_of_lt (Nat.lt_succ_self (r + 1)) hk
      have e : (r + 1).succ = r + 1 + 1 := rfl
      rw [e] at this
      omega
    · exact ⟨r, by omega, by omega⟩
/-- powers by the exponent's bits from above -/
theorem pow_bit (b e p : Nat) : b ^ (e / 2 ^ p) = if (e / 2 ^ p) % 2 = 1 then b ^ (e / 2 ^ (p + 1)) * b ^ (e / 2 ^ (p + 1)) * b else b ^ (e / 2 ^ (p + 1)) * b ^ (e / 2 ^ (p + 1)) := by
  have e1 : e / 2 ^ (p + 1) = e / 2 ^ p / 2 := by rw [Nat.pow_succ, Nat.div_div_eq_div_mul]
  have e2 := Nat.div_add_mod (e / 2 ^ p) 2
  have l := Nat.mod_lt (e / 2 ^ p) (show 0 < 2 by decide)
  rw [e1]
  generalize e / 2 ^ p = q at *
  split
  · rw [← Nat.pow_add, ← Nat.pow_succ]
    congr 1
    omega
  · rw [← Nat.pow_add]
    congr 1
    omega
theorem pow_bound {b a e q : Nat} (hb : b < 2 ^ a) (hq : q ≤ e) : b ^ q ≤ 2 ^ (a * e) := by
  rw [Nat.pow_mul]
  refine Nat.le_trans (Nat.pow_le_pow_left (Nat.le_of_lt hb) q) ?_
  exact Nat.pow_le_pow_right (Nat.pow_pos (by decide)) hq
end Pm

/-! Perfect powers, primes by trial. -/
namespace Pm
theorem euclid_pow : ∀ (s k m a b : Nat), k + m ≤ s → 0 < a → 0 < b → Nat.Coprime k m → a ^ k = b ^ m → ∃ c, a = c ^ m ∧ b = c ^ k
  | 0, k, m, a, b, hs, ha, hb, hc, e => by
    have hk : k = 0 := by omega
    have hm : m = 0 := by omega
    subst hk
    subst hm
    exact absurd hc (by decide)
  | s + 1, k, m, a, b, hs, ha, hb, hc, e => by
    rcases Nat.eq_zero_or_pos k with hk | hk
    · subst hk
      have hm : m = 1 := by
        have : Nat.gcd 0 m = 1 := hc
        rwa [Nat.gcd_zero_left] at this
      subst hm
      rw [Nat.pow_zero, Nat.pow_one] at e
      exact ⟨a, (Nat.pow_one a).symm, by rw [Nat.pow_zero]; exact e.symm⟩
    rcases Nat.eq_zero_or_pos m with hm | hm
    · subst hm
      have hk1 : k = 1 := by
        have : Nat.gcd k 0 = 1 := hc
        rwa [Nat.gcd_zero_right] at this
      subst hk1
      rw [Nat.pow_zero, Nat.pow_one] at e
      exact ⟨b, by rw [Nat.pow_zero]; exact e, (Nat.pow_one b).symm⟩
    rcases Nat.lt_trichotomy k m with h | h | h
    · have hdvd : b ^ k ∣ a ^ k := by
        rw [e]
        exact Nat.pow_dvd_pow b (Nat.le_of_lt h)
      obtain ⟨a', rfl⟩ := (Nat.pow_dvd_pow_iff (by omega)).mp hdvd
      have ha' : 0 < a' := Nat.pos_of_mul_pos_left ha
      have e2 : a' ^ k = b ^ (m - k) := by
        rw [Nat.mul_pow, show b ^ m = b ^ k * b ^ (m - k) by rw [← Nat.pow_add]; congr 1; omega] at e
        exact Nat.eq_of_mul_eq_mul_left (Nat.pow_pos hb) e
      have hc2 : Nat.Coprime k (m - k) := by
        show Nat.gcd k (m - k) = 1
        rw [Nat.gcd_sub_self_right (Nat.le_of_lt h)]
        exact hc
      obtain ⟨c, h1, h2⟩ := euclid_pow s k (m - k) a' b (by omega) ha' hb hc2 e2
      refine ⟨c, ?_, h2⟩
      rw [h1, h2, ← Nat.pow_add]
      congr 1
      omega
    · subst h
      have hk1 : k = 1 := by
        have : Nat.gcd k k = 1 := hc
        rwa [Nat.gcd_self] at this
      subst hk1
      rw [Nat.pow_one, Nat.pow_one] at e
      exact ⟨a, (Nat.pow_one a).symm, by rw [Nat.pow_one]; exact e.symm⟩
    · have hdvd : a ^ m ∣ b ^ m := by
        rw [← e]
        exact Nat.pow_dvd_pow a (Nat.le_of_lt h)
      obtain ⟨b', rfl⟩ := (Nat.pow_dvd_pow_iff (by omega)).mp hdvd
      have hb' : 0 < b' := Nat.pos_of_mul_pos_left hb
      have e2 : a ^ (k - m) = b' ^ m := by
        rw [Nat.mul_pow, show a ^ k = a ^ m * a ^ (k - m) by rw [← Nat.pow_add]; congr 1; omega] at e
        exact Nat.eq_of_mul_eq_mul_left (Nat.pow_pos ha) e
      have hc2 : Nat.Coprime (k - m) m := by
        show Nat.gcd (k - m) m = 1
        rw [Nat.gcd_sub_self_left (Nat.le_of_lt h)]
        exact hc
      obtain ⟨c, h1, h2⟩ := euclid_pow s (k - m) m a b' (by omega) ha hb' hc2 e2
      refine ⟨c, h1, ?_⟩
      rw [h1, h2, ← Nat.pow_add]
      congr 1
      omega
/-- no power of an exponent from 2 on -/
def NotPow (b : Nat) : Prop := ∀ c k, 2 ≤ k → c ^ k ≠ b
theorem ways_of_pow {b g x k : Nat} (hb : 2 ≤ b) (hn : NotPow b) (hg : 0 < g) (hk : 0 < k) (e : x ^ k = b ^ g) : k ∣ g ∧ x = b ^ (g / k) := by
  have hx : 0 < x := by
    rcases Nat.eq_zero_or_pos x with z | z
    · rw [z, Nat.zero_pow hk] at e
      have := Nat.pow_pos (n := g) (show 0 < b by omega)
      omega
    · exact z
  obtain ⟨g', k', hc, eg, ek⟩ := Nat.exists_coprime g k
  have hd : 0 < Nat.gcd g k := Nat.gcd_pos_of_pos_left _ hg
  generalize Nat.gcd g k = d at *
  have e2 : b ^ g' = x ^ k' := by
    rw [eg, ek, Nat.pow_mul, Nat.pow_mul] at e
    exact ((Nat.pow_left_inj (by omega)).mp e).symm
  obtain ⟨c, h1, h2⟩ := euclid_pow (g' + k') g' k' b x (Nat.le_refl _) (by omega) hx hc e2
  have hk' : 0 < k' := by
    rcases Nat.eq_zero_or_pos k' with z | z
    · rw [z, Nat.zero_mul] at ek
      omega
    · exact z
  have hk1 : k' = 1 := by
    rcases Nat.lt_or_ge 1 k' with z | z
    · exact absurd h1.symm (hn c k' z)
    · omega
  subst hk1
  rw [Nat.one_mul] at ek
  rw [Nat.pow_one] at h1
  subst ek
  refine ⟨⟨g', by rw [eg, Nat.mul_comm]⟩, ?_⟩
  rw [h2, ← h1, eg, Nat.mul_div_cancel _ hk]
theorem pow_of_dvd {b g k : Nat} (h : k ∣ g) : (b ^ (g / k)) ^ k = b ^ g := by
  rw [← Nat.pow_mul, Nat.div_mul_cancel h]
/-! primes -/
def Prime (p : Nat) : Prop := 2 ≤ p ∧ ∀ d, d ∣ p → d = 1 ∨ d = p
theorem prime_of_trial {n : Nat} (h2 : 2 ≤ n) (h : ∀ d, 2 ≤ d → d * d ≤ n → ¬ d ∣ n) : Prime n := by
  refine ⟨h2, fun d hd => ?_⟩
  obtain ⟨e, rfl⟩ := hd
  have hd0 : 0 < d := Nat.pos_of_mul_pos_right (show 0 < d * e by omega)
  have he0 : 0 < e := Nat.pos_of_mul_pos_left (show 0 < d * e by omega)
  rcases Nat.lt_or_ge 1 d with z | z
  · rcases Nat.lt_or_ge 1 e with y | y
    · exfalso
      rcases Nat.le_total d e with w | w
      · exact h d z (Nat.mul_le_mul_left d w) ⟨e, rfl⟩
      · exact h e y (Nat.mul_le_mul_right e w) ⟨d, Nat.mul_comm d e⟩
    · have : e = 1 := by omega
      subst this
      exact .inr (by rw [Nat.mul_one])
  · exact .inl (by omega)
theorem not_prime_of {n d : Nat} (h2 : 2 ≤ d) (h : d * d ≤ n) (hd : d ∣ n) : ¬ Prime n := fun p => by
  rcases p.2 d hd with z | z
  · omega
  · subst z
    have : d * 2 ≤ d * d := Nat.mul_le_mul_left d h2
    omega
theorem prime_factor : ∀ n : Nat, 2 ≤ n → ∃ p, Prime p ∧ p ∣ n
  | n, h2 => by
    by_cases hp : Prime n
    · exact ⟨n, hp, Nat.dvd_refl n⟩
    · have : ∃ d, 2 ≤ d ∧ d * d ≤ n ∧ d ∣ n := by
        refine Classical.byContradiction fun hno => hp (prime_of_trial h2 fun d a b c => hno ⟨d, a, b, c⟩)
      obtain ⟨d, a, b, c⟩ := this
      have hlt : d < n := by
        have : d * 2 ≤ d * d := Nat.mul_le_mul_left d a
        omega
      obtain ⟨p, p1, p2⟩ := prime_factor d a
      exact ⟨p, p1, Nat.dvd_trans p2 c⟩
termination_by n => n
def fact : Nat → Nat
  | 0 => 1
  | n + 1 => fact n * (n + 1)
theorem fact_pos : ∀ n, 0 < fact n
  | 0 => Nat.one_pos
  | n + 1 => Nat.mul_pos (fact_pos n) (Nat.succ_pos n)
theorem dvd_fact : ∀ n d, 0 < d → d ≤ n → d ∣ fact n
  | 0, d, h, h2 => by omega
  | n + 1, d, h, h2 => by
    by_cases e : d = n + 1
    · subst e
      exact ⟨fact n, Nat.mul_comm _ _⟩
    · exact Nat.dvd_trans (dvd_fact n d h (by omega)) ⟨n + 1, rfl⟩
theorem prime_above (n : Nat) : ∃ p, n < p ∧ Prime p := by
  obtain ⟨p, hp, hd⟩ := prime_factor (fact n + 1) (by have := fact_pos n; omega)
  refine ⟨p, ?_, hp⟩
  refine Nat.lt_of_not_le fun h => ?_
  have h1 := dvd_fact n p (by have := hp.1; omega) h
  have h2 : p ∣ 1 := by
    have := Nat.dvd_sub hd h1
    rwa [Nat.add_sub_cancel_left] at this
  have := Nat.le_of_dvd Nat.one_pos h2
  have := hp.1
  omega
theorem notPow_of_primes {b : Nat} (h : ∀ q, Prime q → ∀ c, c ^ q ≠ b) : NotPow b := fun c k hk e => by
  obtain ⟨p, hp, j, rfl⟩ := prime_factor k hk
  exact h p hp (c ^ j) (by rw [← Nat.pow_mul, Nat.mul_comm]; exact e)
theorem notPow_one_lt {b k c : Nat} (hb : 2 ≤ b) (hk : b < 2 ^ k) (hk0 : 0 < k) (e : c ^ k = b) : False := by
  rcases Nat.lt_or_ge c 2 with h | h
  · have : c = 0 ∨ c = 1 := by omega
    rcases this with rfl | rfl
    · rw [Nat.zero_pow hk0] at e
      omega
    · rw [Nat.one_pow] at e
      omega
  · have := Nat.pow_le_pow_left h k
    omega
end Pm

/-! Counting powers: sums of marks, the bases by their greatest exponents, in and out. -/
namespace Pm
def S (f : Nat → Nat) : Nat → Nat
  | 0 => 0
  | n + 1 => S f n + f n
theorem S_congr {f g : Nat → Nat} : ∀ {n : Nat}, (∀ i, i < n → f i = g i) → S f n = S g n
  | 0, _ => rfl
  | n + 1, h => by
    show S f n + f n = S g n + g n
    rw [S_congr fun i hi => h i (Nat.lt_succ_of_lt hi), h n (Nat.lt_succ_self n)]
theorem S_zero : ∀ n : Nat, S (fun _ => 0) n = 0
  | 0 => rfl
  | n + 1 => by show S (fun _ => 0) n + 0 = 0; rw [S_zero n]
theorem S_add (f g : Nat → Nat) : ∀ n : Nat, S (fun i => f i + g i) n = S f n + S g n
  | 0 => rfl
  | n + 1 => by
    show S (fun i => f i + g i) n + (f n + g n) = S f n + f n + (S g n + g n)
    rw [S_add f g n]
    omega
theorem S_swap (f : Nat → Nat → Nat) (m : Nat) : ∀ n : Nat, S (fun i => S (fun j => f i j) m) n = S (fun j => S (fun i => f i j) n) m
  | 0 => (S_zero m).symm
  | n + 1 => by
    show S (fun i => S (fun j => f i j) m) n + S (fun j => f n j) m = S (fun j => S (fun i => f i j) n + f n j) m
    rw [S_swap f m n, S_add]
theorem S_one {n : Nat} (j x : Nat) : S (fun i => if i = j then x else 0) n = if j < n then x else 0 := by
  induction n with
  | zero => rfl
  | succ n ih =>
    show S (fun i => if i = j then x else 0) n + (if n = j then x else 0) = _
    rw [ih]
    by_cases h1 : j < n
    · rw [if_pos h1, if_neg (by omega), if_pos (by omega)]; rfl
    · by_cases h2 : n = j
      · rw [if_neg h1, if_pos h2, if_pos (by omega), Nat.zero_add]
      · rw [if_neg h1, if_neg h2, if_neg (by omega)]
/-- 1 where it is so, else 0 -/
noncomputable def I (p : Prop) : Nat := @ite _ p (Classical.propDecidable p) 1 0
theorem I_t {p : Prop} (h : p) : I p = 1 := by unfold I; exact if_pos h
theorem I_f {p : Prop} (h : ¬ p) : I p = 0 := by unfold I; exact if_neg h
theorem I_congr {p q : Prop} (h : p ↔ q) : I p = I q := by rw [propext h]
theorem I_ite (p : Prop) [Decidable p] : I p = if p then 1 else 0 := by
  by_cases h : p
  · rw [I_t h, if_pos h]
  · rw [I_f h, if_neg h]
theorem S2_one {A : Nat → Nat → Prop} {K M k0 c0 : Nat} (hk : k0 < K) (hc : c0 < M) (h : ∀ k c, A k c ↔ k = k0 ∧ c = c0) : S (fun k => S (fun c => I (A k c)) M) K = 1 := by
  have e : ∀ k, k < K → S (fun c => I (A k c)) M = if k = k0 then 1 else 0 := fun k _ => by
    by_cases z : k = k0
    · rw [if_pos z, S_congr (g := fun c => if c = c0 then 1 else 0) fun c _ => ?_]
      · rw [S_one, if_pos hc]
      · rw [I_congr (h k c), I_ite]
        by_cases w : c = c0
        · rw [if_pos ⟨z, w⟩, if_pos w]
        · rw [if_neg fun x => w x.2, if_neg w]
    · rw [if_neg z, S_congr (g := fun _ => 0) fun c _ => I_f fun x => z ((h k c).mp x).1, S_zero]
  rw [S_congr e, S_one, if_pos hk]
theorem S2_none {A : Nat → Nat → Prop} {K M : Nat} (h : ∀ k c, ¬ A k c) : S (fun k => S (fun c => I (A k c)) M) K = 0 := by
  rw [S_congr (g := fun _ => 0) fun k _ => ?_, S_zero]
  rw [S_congr (g := fun _ => 0) fun c _ => I_f (h k c), S_zero]
/-- a mark that only one place can have -/
theorem S_mark {A : Nat → Prop} {P : Prop} {M b0 : Nat} (h : ∀ b, A b ↔ b = b0 ∧ P) (hb : P → b0 < M) : S (fun b => I (A b)) M = I P := by
  by_cases z : P
  · rw [I_t z, S_congr (g := fun b => if b = b0 then 1 else 0) fun b _ => ?_, S_one, if_pos (hb z)]
    by_cases w : b = b0
    · rw [I_t ((h b).mpr ⟨w, z⟩), if_pos w]
    · rw [I_f fun x => w ((h b).mp x).1, if_neg w]
  · rw [I_f z, S_congr (g := fun _ => 0) fun b _ => I_f fun x => z ((h b).mp x).2, S_zero]
theorem S_upto {r : Nat} : ∀ m : Nat, S (fun b => I (2 ≤ b ∧ b ≤ r)) m = min (m - 2) (r - 1)
  | 0 => by show 0 = _; omega
  | m + 1 => by
    show S (fun b => I (2 ≤ b ∧ b ≤ r)) m + I (2 ≤ m ∧ m ≤ r) = _
    rw [S_upto m, I_ite]
    by_cases h : 2 ≤ m ∧ m ≤ r
    · rw [if_pos h]; omega
    · rw [if_neg h]; omega
/-! ### bases that are none themselves -/
def Q (c : Nat) : Prop := 2 ≤ c ∧ NotPow c
/-- how many c, no powers, from 2 on, taken to g are not above n -/
noncomputable def Nn (n g : Nat) : Nat := S (fun c => I (Q c ∧ c ^ g ≤ n)) (n + 1)
theorem pow_base1 {c k n : Nat} (hk : 1 ≤ k) (hn : 2 ≤ n) (e : c ^ k = n) : 2 ≤ c := by
  rcases Nat.lt_or_ge c 2 with h | h
  · have : c = 0 ∨ c = 1 := by omega
    rcases this with rfl | rfl
    · rw [Nat.zero_pow (by omega)] at e; omega
    · rw [Nat.one_pow] at e; omega
  · exact h
theorem Q_ex (n : Nat) : 2 ≤ n → ∃ c k : Nat, Q c ∧ 1 ≤ k ∧ c ^ k = n := by
  induction n using Nat.strongRecOn with
  | ind n ih =>
    intro n2
    by_cases h : NotPow n
    · exact ⟨n, 1, ⟨n2, h⟩, Nat.le_refl 1, Nat.pow_one n⟩
    · obtain ⟨c, k, hk, e⟩ : ∃ c k, 2 ≤ k ∧ c ^ k = n := Classical.byContradiction fun z => h fun c k hk e => z ⟨c, k, hk, e⟩
      have c2 : 2 ≤ c := pow_base1 (by omega) n2 e
      have cn : c < n := by
        rw [← e]
        have h1 : c ^ 1 < c ^ k := Nat.pow_lt_pow_right (by omega) (by omega)
        rwa [Nat.pow_one] at h1
      obtain ⟨b, g, q, g1, eg⟩ := ih c cn c2
      refine ⟨b, g * k, q, ?_, by rw [Nat.pow_mul, eg, e]⟩
      have := Nat.mul_le_mul g1 (show 1 ≤ k by omega)
      omega
theorem Q_uniq {c d k l : Nat} (hc : Q c) (hd : Q d) (hk : 1 ≤ k) (hl : 1 ≤ l) (e : c ^ k = d ^ l) : c = d ∧ k = l := by
  obtain ⟨h1, h2⟩ := ways_of_pow hd.1 hd.2 hl hk e
  obtain ⟨h3, h4⟩ := ways_of_pow hc.1 hc.2 hk hl e.symm
  have : k = l := Nat.dvd_antisymm h1 h3
  subst this
  rw [Nat.div_self (by omega), Nat.pow_one] at h2
  exact ⟨h2, rfl⟩
theorem two_pow_le {c g n : Nat} (hc : 2 ≤ c) (h : c ^ g ≤ n) : 2 ^ g ≤ n := Nat.le_trans (Nat.pow_le_pow_left hc g) h
theorem lt_of_two_pow {g K n : Nat} (h : 2 ^ g ≤ n) (hK : n < 2 ^ K) : g < K := by
  refine Nat.lt_of_not_le fun z => ?_
  have := Nat.pow_le_pow_right (show 0 < 2 by decide) z
  omega
theorem Nn_zero {n g K : Nat} (hK : n < 2 ^ K) (hg : K ≤ g) : Nn n g = 0 := by
  unfold Nn
  have z : ∀ c, ¬ (Q c ∧ c ^ g ≤ n) := fun c h => by
    have := lt_of_two_pow (two_pow_le h.1.1 h.2) hK
    omega
  rw [S_congr (g := fun _ => 0) fun c _ => I_f (z c), S_zero]
/-- the bases from 2 on whose power by e is not above n, by the greatest exponents of these powers -/
theorem roots_split {n e r K : Nat} (he : 1 ≤ e) (hr : IsRoot n e r) (hK : n < 2 ^ K) : S (fun g => if 1 ≤ g ∧ e ∣ g then Nn n g else 0) K = r - 1 := by
  have hle : ∀ b, b ^ e ≤ n ↔ b ≤ r := fun b => by
    constructor
    · intro h
      refine Nat.le_of_not_lt fun z => ?_
      have h3 : (r + 1) ^ e ≤ b ^ e := Nat.pow_le_pow_left z e
      have h4 := hr.2
      exact absurd (Nat.lt_of_lt_of_le h4 (Nat.le_trans h3 h)) (Nat.lt_irrefl _)
    · intro h
      exact Nat.le_trans (Nat.pow_le_pow_left h e) hr.1
  have hrn : r ≤ n := (hle r).mpr (Nat.le_refl r) |> fun h => Nat.le_trans (Nat.le_self_pow (by omega) r) h
  have h1 : S (fun b => I (2 ≤ b ∧ b ^ e ≤ n)) (n + 1) = r - 1 := by
    rw [S_congr (g := fun b => I (2 ≤ b ∧ b ≤ r)) fun b _ => I_congr ⟨fun ⟨x, y⟩ => ⟨x, (hle b).mp y⟩, fun ⟨x, y⟩ => ⟨x, (hle b).mpr y⟩⟩, S_upto]
    omega
  rw [← h1]
  have h2 : ∀ b, b < n + 1 → I (2 ≤ b ∧ b ^ e ≤ n) = S (fun g => S (fun c => I ((1 ≤ g ∧ e ∣ g) ∧ Q c ∧ c ^ (g / e) = b ∧ b ^ e ≤ n)) (n + 1)) K := fun b hb => by
    by_cases z : 2 ≤ b ∧ b ^ e ≤ n
    · obtain ⟨c0, k0, q0, k1, e0⟩ := Q_ex b z.1
      have hcb : c0 ≤ b := by rw [← e0]; exact Nat.le_self_pow (by omega) c0
      have hg : c0 ^ (e * k0) ≤ n := by rw [Nat.mul_comm, Nat.pow_mul, e0]; exact z.2
      have ek : 1 ≤ e * k0 := by have := Nat.mul_le_mul he k1; omega
      rw [I_t z]
      refine (S2_one (k0 := e * k0) (c0 := c0) (lt_of_two_pow (two_pow_le q0.1 hg) hK) (by omega) fun g c => ?_).symm
      constructor
      · rintro ⟨⟨g1, ⟨l, rfl⟩⟩, qc, ec, _⟩
        rw [Nat.mul_div_cancel_left l (by omega)] at ec
        have l1 : 1 ≤ l := by
          rcases Nat.eq_zero_or_pos l with w | w
          · rw [w] at g1; omega
          · exact w
        obtain ⟨rfl, rfl⟩ := Q_uniq qc q0 l1 k1 (ec.trans e0.symm)
        exact ⟨rfl, rfl⟩
      · rintro ⟨rfl, rfl⟩
        exact ⟨⟨ek, ⟨k0, rfl⟩⟩, q0, by rw [Nat.mul_div_cancel_left k0 (by omega)]; exact e0, z.2⟩
    · rw [I_f z]
      refine (S2_none fun g c => ?_).symm
      rintro ⟨⟨g1, ⟨l, rfl⟩⟩, qc, ec, hb2⟩
      rw [Nat.mul_div_cancel_left l (by omega)] at ec
      refine z ⟨?_, hb2⟩
      rw [← ec]
      have l1 : l ≠ 0 := fun w => by rw [w] at g1; omega
      exact Nat.le_trans qc.1 (Nat.le_self_pow l1 c)
  rw [S_congr h2, S_swap]
  refine S_congr fun g _ => ?_
  rw [S_swap]
  by_cases z : 1 ≤ g ∧ e ∣ g
  · rw [if_pos z]
    unfold Nn
    refine S_congr fun c _ => ?_
    obtain ⟨g1, ⟨l, rfl⟩⟩ := z
    refine (S_mark (b0 := c ^ l) (P := Q c ∧ c ^ (e * l) ≤ n) (fun b => ?_) fun h => ?_).symm
    · rw [Nat.mul_div_cancel_left l (by omega)]
      constructor
      · rintro ⟨_, qc, rfl, h⟩
        exact ⟨rfl, qc, by rw [Nat.mul_comm, Nat.pow_mul]; exact h⟩
      · rintro ⟨rfl, qc, h⟩
        exact ⟨⟨g1, ⟨l, rfl⟩⟩, qc, rfl, by rw [← Nat.pow_mul, Nat.mul_comm]; exact h⟩
    · have : c ^ l ≤ (c ^ l) ^ e := Nat.le_self_pow (by omega) _
      rw [← Nat.pow_mul, Nat.mul_comm] at this
      have := h.2
      omega
  · rw [if_neg z, S_congr (g := fun _ => 0) fun c _ => ?_, S_zero]
    rw [S_congr (g := fun _ => 0) fun b _ => I_f fun x => z x.1, S_zero]
/-- the powers from 2 on to n, by their greatest exponents -/
def IsPow (m : Nat) : Prop := ∃ c k, 2 ≤ k ∧ c ^ k = m
theorem powers_split {n K : Nat} (hK : n < 2 ^ K) : S (fun m => I (2 ≤ m ∧ IsPow m)) (n + 1) = S (fun g => if 2 ≤ g then Nn n g else 0) K := by
  have h2 : ∀ m, m < n + 1 → I (2 ≤ m ∧ IsPow m) = S (fun g => S (fun c => I (2 ≤ g ∧ Q c ∧ c ^ g = m ∧ m ≤ n)) (n + 1)) K := fun m hm => by
    by_cases z : 2 ≤ m ∧ IsPow m
    · obtain ⟨c0, k0, q0, k1, e0⟩ := Q_ex m z.1
      have k2 : 2 ≤ k0 := by
        refine Nat.le_of_not_lt fun w => ?_
        have : k0 = 1 := by omega
        rw [this, Nat.pow_one] at e0
        obtain ⟨c, k, hk, e⟩ := z.2
        exact q0.2 c k hk (e.trans e0.symm)
      have hcb : c0 ≤ m := by rw [← e0]; exact Nat.le_self_pow (by omega) c0
      rw [I_t z]
      refine (S2_one (k0 := k0) (c0 := c0) (lt_of_two_pow (two_pow_le q0.1 (by rw [e0]; exact Nat.le_of_lt_succ hm)) hK) (by omega) fun g c => ?_).symm
      constructor
      · rintro ⟨g2, qc, ec, _⟩
        obtain ⟨rfl, rfl⟩ := Q_uniq qc q0 (by omega) k1 (ec.trans e0.symm)
        exact ⟨rfl, rfl⟩
      · rintro ⟨rfl, rfl⟩
        exact ⟨k2, q0, e0, Nat.le_of_lt_succ hm⟩
    · rw [I_f z]
      refine (S2_none fun g c => ?_).symm
      rintro ⟨g2, qc, ec, _⟩
      refine z ⟨?_, c, g, g2, ec⟩
      rw [← ec]
      exact Nat.le_trans qc.1 (Nat.le_self_pow (by omega) c)
  rw [S_congr h2, S_swap]
  refine S_congr fun g _ => ?_
  rw [S_swap]
  by_cases z : 2 ≤ g
  · rw [if_pos z]
    unfold Nn
    refine S_congr fun c _ => ?_
    refine (S_mark (b0 := c ^ g) (P := Q c ∧ c ^ g ≤ n) (fun b => ?_) fun h => Nat.lt_succ_of_le h.2)
    constructor
    · rintro ⟨_, qc, rfl, h⟩
      exact ⟨rfl, qc, h⟩
    · rintro ⟨rfl, qc, h⟩
      exact ⟨z, qc, rfl, h⟩
  · rw [if_neg z, S_congr (g := fun _ => 0) fun c _ => ?_, S_zero]
    rw [S_congr (g := fun _ => 0) fun b _ => I_f fun x => z x.1, S_zero]
/-! ### in and out -/
def SI (f : Nat → Int) : Nat → Int
  | 0 => 0
  | n + 1 => SI f n + f n
theorem SI_congr {f g : Nat → Int} : ∀ {n : Nat}, (∀ i, i < n → f i = g i) → SI f n = SI g n
  | 0, _ => rfl
  | n + 1, h => by
    show SI f n + f n = SI g n + g n
    rw [SI_congr fun i hi => h i (Nat.lt_succ_of_lt hi), h n (Nat.lt_succ_self n)]
theorem SI_zero : ∀ n : Nat, SI (fun _ => 0) n = 0
  | 0 => rfl
  | n + 1 => by show SI (fun _ => 0) n + 0 = 0; rw [SI_zero n]; rfl
theorem SI_add (f g : Nat → Int) : ∀ n : Nat, SI (fun i => f i + g i) n = SI f n + SI g n
  | 0 => rfl
  | n + 1 => by
    show SI (fun i => f i + g i) n + (f n + g n) = SI f n + f n + (SI g n + g n)
    rw [SI_add f g n]
    omega
theorem SI_swap (f : Nat → Nat → Int) (m : Nat) : ∀ n : Nat, SI (fun i => SI (fun j => f i j) m) n = SI (fun j => SI (fun i => f i j) n) m
  | 0 => (SI_zero m).symm
  | n + 1 => by
    show SI (fun i => SI (fun j => f i j) m) n + SI (fun j => f n j) m = SI (fun j => SI (fun i => f i j) n + f n j) m
    rw [SI_swap f m n, SI_add]
theorem SI_mul (x : Int) (f : Nat → Int) : ∀ n : Nat, SI (fun i => x * f i) n = x * SI f n
  | 0 => (Int.mul_zero x).symm
  | n + 1 => by
    show SI (fun i => x * f i) n + x * f n = x * (SI f n + f n)
    rw [SI_mul x f n, Int.mul_add]
theorem SI_mulr (x : Int) (f : Nat → Int) (n : Nat) : SI (fun i => f i * x) n = SI f n * x := by
  rw [SI_congr (g := fun i => x * f i) fun i _ => Int.mul_comm _ _, SI_mul, Int.mul_comm]
theorem SI_neg (f : Nat → Int) : ∀ n : Nat, SI (fun i => - f i) n = - SI f n
  | 0 => rfl
  | n + 1 => by
    show SI (fun i => - f i) n + - f n = - (SI f n + f n)
    rw [SI_neg f n]
    omega
theorem S_cast (f : Nat → Nat) : ∀ n : Nat, ((S f n : Nat) : Int) = SI (fun i => (f i : Int)) n
  | 0 => rfl
  | n + 1 => by
    show ((S f n + f n : Nat) : Int) = SI (fun i => (f i : Int)) n + (f n : Int)
    rw [← S_cast f n]
    omega
/-- signs whose sums over the divisors from 2 on are -1, below K -/
def Signs (sg : Nat → Int) (K : Nat) : Prop := ∀ g, 2 ≤ g → g < K → SI (fun e => if 2 ≤ e ∧ e ∣ g then sg e else 0) K = -1
/-- in and out by roots -/
theorem in_out {n K : Nat} {sg : Nat → Int} {R : Nat → Nat} (hK : n < 2 ^ K) (hs : Signs sg K) (hR : ∀ e, 2 ≤ e → e < K → IsRoot n e (R e)) :
    SI (fun e => if 2 ≤ e then sg e * ((R e - 1 : Nat) : Int) else 0) K = - ((S (fun m => I (2 ≤ m ∧ IsPow m)) (n + 1) : Nat) : Int) := by
  have h1 : ∀ e, e < K → (if 2 ≤ e then sg e * ((R e - 1 : Nat) : Int) else 0) = SI (fun g => (if 2 ≤ e ∧ e ∣ g then sg e else 0) * (if 1 ≤ g then (Nn n g : Int) else 0)) K := fun e he => by
    by_cases z : 2 ≤ e
    · rw [if_pos z, ← roots_split (by omega) (hR e z he) hK, S_cast, ← SI_mul]
      refine SI_congr fun g _ => ?_
      by_cases w : e ∣ g
      · by_cases u : 1 ≤ g
        · rw [if_pos ⟨u, w⟩, if_pos ⟨z, w⟩, if_pos u]
        · rw [if_neg fun x => u x.1, if_neg u, Int.mul_zero]; exact Int.mul_zero _
      · rw [if_neg fun x => w x.2, if_neg fun x => w x.2, Int.zero_mul]
        exact Int.mul_zero _
    · rw [if_neg z, SI_congr (g := fun _ => 0) fun g _ => by rw [if_neg fun x => z x.1, Int.zero_mul], SI_zero]
  rw [SI_congr h1, SI_swap, powers_split hK, S_cast, ← SI_neg]
  refine SI_congr fun g hg => ?_
  rw [SI_mulr]
  by_cases z : 2 ≤ g
  · rw [hs g z hg, if_pos (show 1 ≤ g by omega), if_pos z]
    omega
  · rw [if_neg z]
    by_cases u : 1 ≤ g
    · have g1 : g = 1 := by omega
      subst g1
      rw [SI_congr (g := fun _ => 0) fun e _ => if_neg fun x => ?_, SI_zero, Int.zero_mul]
      · rfl
      · have := Nat.le_of_dvd (by decide) x.2
        omega
    · rw [if_neg u, Int.mul_zero]
      rfl
end Pm

/-! Counts by greatest exponents, as the program makes them; the powers that are no squares. -/
namespace Pm
theorem S_head (f : Nat → Nat) : ∀ n : Nat, S f (n + 1) = f 0 + S (fun i => f (i + 1)) n
  | 0 => by show 0 + f 0 = f 0 + 0; omega
  | n + 1 => by
    show S f (n + 1) + f (n + 1) = f 0 + (S (fun i => f (i + 1)) n + f (n + 1))
    rw [S_head f n]
    omega
theorem S_mono {f g : Nat → Nat} : ∀ {n : Nat}, (∀ i, i < n → f i ≤ g i) → S f n ≤ S g n
  | 0, _ => Nat.le_refl _
  | n + 1, h => Nat.add_le_add (S_mono fun i hi => h i (Nat.lt_succ_of_lt hi)) (h n (Nat.lt_succ_self n))
theorem S_up (f : Nat → Nat) (n : Nat) : ∀ k : Nat, S f n ≤ S f (n + k)
  | 0 => Nat.le_refl _
  | k + 1 => Nat.le_trans (S_up f n k) (Nat.le_add_right _ _)
theorem S_le {f : Nat → Nat} {n m : Nat} (h : n ≤ m) : S f n ≤ S f m := by
  obtain ⟨k, rfl⟩ := Nat.exists_eq_add_of_le h
  exact S_up f n k
/-- a sum over the multiples of e -/
theorem S_mult (f : Nat → Nat) {e : Nat} (he : 1 ≤ e) : ∀ m : Nat, S (fun g => if 1 ≤ g ∧ e ∣ g then f g else 0) (m + 1) = S (fun j => f (e * (j + 1))) (m / e)
  | 0 => by
    rw [Nat.zero_div]
    rfl
  | m + 1 => by
    show S (fun g => if 1 ≤ g ∧ e ∣ g then f g else 0) (m + 1) + (if 1 ≤ m + 1 ∧ e ∣ m + 1 then f (m + 1) else 0) = _
    rw [S_mult f he m]
    by_cases h : e ∣ m + 1
    · obtain ⟨q, hq⟩ := h
      have q1 : 1 ≤ q := by
        rcases Nat.eq_zero_or_pos q with z | z
        · rw [z] at hq; omega
        · exact z
      obtain ⟨p, rfl⟩ : ∃ p, q = p + 1 := ⟨q - 1, by omega⟩
      have h1 : (m + 1) / e = p + 1 := by rw [hq, Nat.mul_div_cancel_left _ (by omega)]
      have h2 : m / e = p := by
        have e1 : m = e * p + (e - 1) := by rw [Nat.mul_succ] at hq; omega
        rw [e1, Nat.mul_add_div (by omega), Nat.div_eq_of_lt (by omega)]
        rfl
      rw [if_pos ⟨by omega, ⟨p + 1, hq⟩⟩, h1, h2, hq]
      rfl
    · rw [if_neg fun x => h x.2, Nat.add_zero]
      have : (m + 1) / e = m / e := by
        have h1 := Nat.div_add_mod m e
        have h2 := Nat.mod_lt m (show 0 < e by omega)
        have h3 : m % e + 1 ≠ e := fun z => h ⟨m / e + 1, by rw [Nat.mul_succ]; omega⟩
        have e1 : m + 1 = e * (m / e) + (m % e + 1) := by omega
        rw [e1, Nat.mul_add_div (by omega), Nat.div_eq_of_lt (show m % e + 1 < e by omega)]
        rfl
      rw [this]
theorem sum_range (f : Nat → Nat) : ∀ c : Nat, ((List.range c).map f).sum = S f c
  | 0 => rfl
  | c + 1 => by
    rw [List.range_succ, List.map_append, List.sum_append, sum_range f c]
    show S f c + (f c + 0) = S f c + f c
    omega
theorem S_from2 (f : Nat → Nat) : ∀ c : Nat, S (fun g => if 2 ≤ g then f g else 0) (c + 2) = S (fun j => f (2 + j)) c
  | 0 => rfl
  | c + 1 => by
    show S (fun g => if 2 ≤ g then f g else 0) (c + 2) + (if 2 ≤ c + 2 then f (c + 2) else 0) = S (fun j => f (2 + j)) c + f (2 + c)
    rw [S_from2 f c, if_pos (by omega), Nat.add_comm c 2]
/-- the greatest exponent that is counted -/
structure Mst (n M : Nat) : Prop where
  two : 2 ≤ M
  hi : n < 2 ^ (M + 1)
  lo : M = 2 ∨ 2 ^ M ≤ n
theorem Mst.uniq {n M M' : Nat} (h : Mst n M) (h' : Mst n M') : M = M' := by
  have key : ∀ {a b : Nat}, Mst n a → Mst n b → ¬ a < b := fun {a b} ha hb z => by
    rcases hb.lo with w | w
    · have := ha.two
      omega
    · have h1 := ha.hi
      have h2 : (2 : Nat) ^ (a + 1) ≤ 2 ^ b := Nat.pow_le_pow_right (by decide) z
      omega
  have h1 := key h h'
  have h2 := key h' h
  omega
/-- by greatest exponents 2, 3, .. M; 1 counts to 2 -/
noncomputable def cgl (n M : Nat) : List Nat := (List.range (M - 1)).map fun j => Nn n (2 + j) + if j = 0 then 1 else 0
/-- what the program takes off a root: the sums of greater multiples -/
theorem root_mult {n e r M : Nat} (he : 1 ≤ e) (hM : e ≤ M) (hr : IsRoot n e r) (hK : n < 2 ^ (M + 1)) : r - 1 = Nn n e + ((List.range (M / e - 1)).map fun j => Nn n (2 * e + j * e)).sum := by
  rw [← roots_split he hr hK, S_mult _ he, sum_range]
  have h1 : 1 ≤ M / e := (Nat.le_div_iff_mul_le (by omega)).mpr (by omega)
  rw [show M / e = M / e - 1 + 1 by omega, S_head, show M / e - 1 + 1 - 1 = M / e - 1 by omega, Nat.zero_add, Nat.mul_one]
  congr 1
  refine S_congr fun j _ => ?_
  rw [show e * (j + 1 + 1) = 2 * e + j * e by rw [Nat.mul_add, Nat.mul_add, Nat.mul_comm e j]; omega]
/-- the count of the powers to n -/
theorem cgl_sum {n M : Nat} (h : Mst n M) : (cgl n M).sum = 1 + S (fun m => I (2 ≤ m ∧ IsPow m)) (n + 1) := by
  unfold cgl
  rw [sum_range, S_add, powers_split h.hi]
  have e : M + 1 = (M - 1) + 2 := by have := h.two; omega
  rw [e, S_from2, S_one (n := M - 1) 0 1, if_pos (by have := h.two; omega)]
  omega
/-- the length of a list without repetition: marks -/
theorem len_marks : ∀ {l : List Nat} {N : Nat}, l.Nodup → (∀ x ∈ l, x < N) → S (fun m => I (m ∈ l)) N = l.length
  | [], N, _, _ => by
    rw [S_congr (g := fun _ => 0) fun i _ => I_f (by simp), S_zero]
    rfl
  | a :: l, N, hn, hb => by
    have hn' := List.nodup_cons.mp hn
    have e : ∀ m, m < N → I (m ∈ a :: l) = (if m = a then 1 else 0) + I (m ∈ l) := fun m _ => by
      by_cases z : m = a
      · subst z
        rw [I_t (List.mem_cons_self ..), if_pos rfl, I_f hn'.1]
      · rw [if_neg z, Nat.zero_add]
        refine I_congr ⟨fun h => ?_, fun h => List.mem_cons_of_mem _ h⟩
        rcases List.mem_cons.mp h with w | w
        · exact absurd w z
        · exact w
    rw [S_congr e, S_add, S_one, if_pos (hb a (List.mem_cons_self ..)), len_marks hn'.2 fun x hx => hb x (List.mem_cons_of_mem _ hx), List.length_cons]
    omega
/-! ### the powers that are no squares -/
theorem Nn_mono {n m g : Nat} (h : n ≤ m) : Nn n g ≤ Nn m g := by
  unfold Nn
  refine Nat.le_trans (S_mono (g := fun c => I (Q c ∧ c ^ g ≤ m)) fun c _ => ?_) (S_le (by omega))
  by_cases z : Q c ∧ c ^ g ≤ n
  · rw [I_t z, I_t ⟨z.1, Nat.le_trans z.2 h⟩]
    exact Nat.le_refl _
  · rw [I_f z]
    exact Nat.zero_le _
theorem Nn_le_of {n m g h : Nat} (hg : 1 ≤ g) (hh : 1 ≤ h) (H : ∀ c, 2 ≤ c → c ^ g ≤ n → c ^ h ≤ m) : Nn n g ≤ Nn m h := by
  unfold Nn
  have e : S (fun c => I (Q c ∧ c ^ g ≤ n)) (n + 1) ≤ S (fun c => I (Q c ∧ c ^ h ≤ m)) (n + 1) := S_mono fun c _ => by
    by_cases z : Q c ∧ c ^ g ≤ n
    · rw [I_t z, I_t ⟨z.1, H c z.1.1 z.2⟩]
      exact Nat.le_refl _
    · rw [I_f z]
      exact Nat.zero_le _
  refine Nat.le_trans e ?_
  rcases Nat.le_total n m with z | z
  · exact S_le (by omega)
  · obtain ⟨k, hk⟩ := Nat.exists_eq_add_of_le z
    have out : ∀ k, S (fun c => I (Q c ∧ c ^ h ≤ m)) (m + 1 + k) = S (fun c => I (Q c ∧ c ^ h ≤ m)) (m + 1) := fun k => by
      induction k with
      | zero => rfl
      | succ k ih =>
        show S (fun c => I (Q c ∧ c ^ h ≤ m)) (m + 1 + k) + I (Q (m + 1 + k) ∧ (m + 1 + k) ^ h ≤ m) = _
        rw [ih, I_f, Nat.add_zero]
        rintro ⟨_, w⟩
        have := Nat.le_self_pow (n := h) (by omega) (m + 1 + k)
        omega
    rw [hk, show m + k + 1 = m + 1 + k by omega, out]
    exact Nat.le_refl _
/-- how many powers to m * m are no squares, counted to the exponent 2 K -/
noncomputable def Od (m K : Nat) : Nat := S (fun h => Nn (m * m) (2 * h + 3)) K
theorem Od_mono {m m' K : Nat} (h : m ≤ m') : Od m K ≤ Od m' K := S_mono fun _ _ => Nn_mono (Nat.mul_le_mul h h)
theorem Od_le {m K : Nat} (hm : 1 ≤ m) (hK : m < 2 ^ K) : Od m K ≤ m - 1 := by
  unfold Od
  rcases Nat.lt_or_ge m 2 with z | z
  · have : m = 1 := by omega
    subst this
    rw [S_congr (g := fun _ => 0) fun h _ => Nn_zero (K := 1) (by decide) (by omega), S_zero]
    exact Nat.zero_le _
  · have h1 : S (fun h => Nn (m * m) (2 * h + 3)) K ≤ S (fun h => Nn (m - 1) (h + 1)) K := S_mono fun h _ => Nn_le_of (by omega) (by omega) fun c c2 hc => by
      refine Nat.le_of_not_lt fun w => ?_
      have h2 : m ≤ c ^ (h + 1) := by omega
      have h3 := Nat.mul_le_mul h2 h2
      have h4 : c ^ (2 * h + 3) = c ^ (h + 1) * c ^ (h + 1) * c := by
        rw [← Nat.pow_add, ← Nat.pow_succ]
        congr 1
        omega
      have h5 : c ^ (h + 1) * c ^ (h + 1) * 2 ≤ c ^ (h + 1) * c ^ (h + 1) * c := Nat.mul_le_mul_left _ c2
      have h6 : 0 < m * m := Nat.mul_pos (by omega) (by omega)
      omega
    refine Nat.le_trans h1 ?_
    have h2 := roots_split (n := m - 1) (e := 1) (r := m - 1) (K := K + 1) (by decide) ⟨by rw [Nat.pow_one]; exact Nat.le_refl _, by rw [Nat.pow_one]; omega⟩ (by rw [Nat.pow_succ]; omega)
    rw [S_head] at h2
    have h3 : S (fun h => Nn (m - 1) (h + 1)) K = S (fun i => if 1 ≤ i + 1 ∧ 1 ∣ i + 1 then Nn (m - 1) (i + 1) else 0) K := S_congr fun i _ => by rw [if_pos ⟨by omega, Nat.one_dvd _⟩]
    rw [h3]
    omega
theorem S_even_odd (f : Nat → Nat) : ∀ K : Nat, S (fun g => if 2 ≤ g then f g else 0) (2 * K + 3) = S (fun g => if 1 ≤ g ∧ 2 ∣ g then f g else 0) (2 * K + 3) + S (fun h => f (2 * h + 3)) K
  | 0 => by
    show 0 + (if 2 ≤ 0 then f 0 else 0) + (if 2 ≤ 1 then f 1 else 0) + (if 2 ≤ 2 then f 2 else 0) = 0 + (if 1 ≤ 0 ∧ 2 ∣ 0 then f 0 else 0) + (if 1 ≤ 1 ∧ 2 ∣ 1 then f 1 else 0) + (if 1 ≤ 2 ∧ 2 ∣ 2 then f 2 else 0) + 0
    rw [if_neg (by omega), if_neg (by omega), if_pos (by omega), if_neg (by omega), if_neg (by omega), if_pos (by omega)]
    omega
  | K + 1 => by
    show S (fun g => if 2 ≤ g then f g else 0) (2 * K + 3) + (if 2 ≤ 2 * K + 3 then f (2 * K + 3) else 0) + (if 2 ≤ 2 * K + 4 then f (2 * K + 4) else 0)
      = S (fun g => if 1 ≤ g ∧ 2 ∣ g then f g else 0) (2 * K + 3) + (if 1 ≤ 2 * K + 3 ∧ 2 ∣ 2 * K + 3 then f (2 * K + 3) else 0) + (if 1 ≤ 2 * K + 4 ∧ 2 ∣ 2 * K + 4 then f (2 * K + 4) else 0) + (S (fun h => f (2 * h + 3)) K + f (2 * K + 3))
    rw [S_even_odd f K, if_pos (by omega), if_pos (by omega), if_neg (by omega), if_pos (by omega)]
    omega
/-- all powers to a square: its root, and those that are no squares -/
theorem cnt_sq {m K : Nat} (hm : 1 ≤ m) (hK : m < 2 ^ K) : 1 + S (fun v => I (2 ≤ v ∧ IsPow v)) (m * m + 1) = m + Od m K := by
  have hb : m * m < 2 ^ (2 * K + 3) := by
    refine Nat.lt_of_lt_of_le (Nat.mul_lt_mul_of_lt_of_lt hK hK) ?_
    rw [← Nat.pow_add]
    exact Nat.pow_le_pow_right (by decide) (by omega)
  rw [powers_split hb, S_even_odd, roots_split (e := 2) (r := m) (by decide) ⟨by rw [Nat.pow_two]; exact Nat.le_refl _, by rw [Nat.pow_two]; exact Nat.mul_lt_mul_of_lt_of_lt (Nat.lt_succ_self m) (Nat.lt_succ_self m)⟩ hb]
  unfold Od
  omega
end Pm

namespace Pm
/-! ### rests of powers -/
theorem up_uniq : ∀ {xs ys : List Nat}, xs.Pairwise (· < ·) → ys.Pairwise (· < ·) → (∀ k, k ∈ xs ↔ k ∈ ys) → xs = ys
  | [], [], _, _, _ => rfl
  | [], y :: ys, _, _, h => absurd ((h y).mpr (List.mem_cons_self ..)) (by simp)
  | x :: xs, [], _, _, h => absurd ((h x).mp (List.mem_cons_self ..)) (by simp)
  | x :: xs, y :: ys, hx, hy, h => by
    obtain ⟨x1, x2⟩ := List.pairwise_cons.mp hx
    obtain ⟨y1, y2⟩ := List.pairwise_cons.mp hy
    have e : x = y := by
      have a := (h x).mp (List.mem_cons_self ..)
      have b := (h y).mpr (List.mem_cons_self ..)
      rcases List.mem_cons.mp a with a | a
      · exact a
      · rcases List.mem_cons.mp b with b | b
        · exact b.symm
        · have := x1 _ b
          have := y1 _ a
          omega
    subst e
    congr 1
    refine up_uniq x2 y2 fun k => ?_
    constructor
    · intro m
      rcases List.mem_cons.mp ((h k).mp (List.mem_cons_of_mem _ m)) with z | z
      · have := x1 _ m
        omega
      · exact z
    · intro m
      rcases List.mem_cons.mp ((h k).mpr (List.mem_cons_of_mem _ m)) with z | z
      · have := y1 _ m
        omega
      · exact z
/-- r is a rest by d of numbers taken to e -/
def IsRst (d e r : Nat) : Prop := ∃ b, b < d ∧ b ^ e % d = r
instance (d e r : Nat) : Decidable (IsRst d e r) := inferInstanceAs (Decidable (∃ b, b < d ∧ b ^ e % d = r))
def rsts (d e : Nat) : List Nat := (List.range d).filter fun r => decide (IsRst d e r)
theorem mem_rsts {d e r : Nat} : r ∈ rsts d e ↔ IsRst d e r := by
  unfold rsts
  rw [List.mem_filter, List.mem_range, decide_eq_true_iff]
  refine ⟨fun h => h.2, fun h => ⟨?_, h⟩⟩
  obtain ⟨b, hb, rfl⟩ := h
  exact Nat.mod_lt _ (by omega)
theorem up_range (n : Nat) : (List.range n).Pairwise (· < ·) := List.pairwise_lt_range
theorem up_rsts (d e : Nat) : (rsts d e).Pairwise (· < ·) := (up_range d).filter _
theorem rsts_eq {d e : Nat} {zs : List Nat} (h : zs.Pairwise (· < ·)) (m : ∀ r, r ∈ zs ↔ IsRst d e r) : zs = rsts d e := up_uniq h (up_rsts d e) fun k => (m k).trans mem_rsts.symm
theorem rst_of {d : Nat} (e b : Nat) (hd : 0 < d) : IsRst d e (b ^ e % d) := ⟨b % d, Nat.mod_lt _ hd, (Nat.pow_mod b e d).symm⟩
/-! ### over the whole numbers, and together -/
theorem sub_dvd_pow (z x : Int) : ∀ e : Nat, z - x ∣ z ^ e - x ^ e
  | 0 => by simp
  | e + 1 => by
    obtain ⟨c, hc⟩ := sub_dvd_pow z x e
    refine ⟨z * c + x ^ e, ?_⟩
    rw [Int.pow_succ, Int.pow_succ]
    have : z ^ e = (z - x) * c + x ^ e := by omega
    rw [this]
    grind
theorem bez : ∀ a b : Nat, ∃ u v : Int, (a : Int) * u + (b : Int) * v = ((Nat.gcd a b : Nat) : Int) := by
  intro a b
  induction a, b using Nat.gcd.induction with
  | H0 n => exact ⟨0, 1, by simp⟩
  | H1 m n h ih =>
    obtain ⟨u, v, e⟩ := ih
    rw [Nat.gcd_rec m n]
    refine ⟨v - ((n / m : Nat) : Int) * u, u, ?_⟩
    rw [← e]
    have h2 : ((n : Nat) : Int) = ((n % m : Nat) : Int) + (m : Int) * ((n / m : Nat) : Int) := by
      have := Nat.mod_add_div n m
      exact_mod_cast this.symm
    rw [h2]
    have h3 : ((((n % m : Nat) : Int) + (m : Int) * ((n / m : Nat) : Int))) = ((n % m : Nat) : Int) + (m : Int) * ((n / m : Nat) : Int) := rfl
    generalize ((n % m : Nat) : Int) = r at *
    generalize ((n / m : Nat) : Int) = q at *
    grind
/-- n is a power by e to within m -/
def ResI (m e : Nat) (n : Int) : Prop := ∃ z : Int, (m : Int) ∣ z ^ e - n
theorem ResI.together {a b e : Nat} {n : Int} (h : Nat.Coprime a b) (ha : ResI a e n) (hb : ResI b e n) : ResI (a * b) e n := by
  obtain ⟨x, s, hs⟩ := ha
  obtain ⟨y, t, ht⟩ := hb
  obtain ⟨u, v, e1⟩ := bez a b
  rw [show Nat.gcd a b = 1 from h] at e1
  have e1 : (a : Int) * u + (b : Int) * v = 1 := e1
  refine ⟨x * ((b : Int) * v) + y * ((a : Int) * u), ?_⟩
  generalize hz : x * ((b : Int) * v) + y * ((a : Int) * u) = z
  obtain ⟨c, hc⟩ := sub_dvd_pow z x e
  obtain ⟨d, hd⟩ := sub_dvd_pow z y e
  have zx : z - x = (a : Int) * (u * (y - x)) := by
    rw [← hz]
    have : (b : Int) * v = 1 - (a : Int) * u := by omega
    rw [this]
    grind
  have zy : z - y = (b : Int) * (v * (x - y)) := by
    rw [← hz]
    have : (a : Int) * u = 1 - (b : Int) * v := by omega
    rw [this]
    grind
  have na : z ^ e - n = (a : Int) * (u * (y - x) * c + s) := by
    have : z ^ e - n = (z ^ e - x ^ e) + (x ^ e - n) := by omega
    rw [this, hc, hs, zx]
    grind
  have nb : z ^ e - n = (b : Int) * (v * (x - y) * d + t) := by
    have : z ^ e - n = (z ^ e - y ^ e) + (y ^ e - n) := by omega
    rw [this, hd, ht, zy]
    grind
  generalize u * (y - x) * c + s = p at *
  generalize v * (x - y) * d + t = q at *
  refine ⟨q * u + p * v, ?_⟩
  have e2 : z ^ e - n = (z ^ e - n) * ((a : Int) * u) + (z ^ e - n) * ((b : Int) * v) := by
    rw [← Int.mul_add, e1, Int.mul_one]
  rw [e2]
  conv => lhs; arg 1; rw [nb]
  conv => lhs; arg 2; rw [na]
  rw [Int.natCast_mul]
  grind
theorem ResI.dvd {a m e : Nat} {n : Int} (h : a ∣ m) (r : ResI m e n) : ResI a e n := by
  obtain ⟨z, hz⟩ := r
  exact ⟨z, Int.dvd_trans (Int.natCast_dvd_natCast.mpr h) hz⟩
theorem resI_iff {d e n : Nat} (hd : 0 < d) : ResI d e (n : Int) ↔ IsRst d e (n % d) := by
  constructor
  · rintro ⟨z, hz⟩
    have z0 := Int.emod_nonneg z (show (d : Int) ≠ 0 by omega)
    have z1 := Int.emod_lt_of_pos z (show (0 : Int) < (d : Int) by omega)
    obtain ⟨b, hb⟩ := Int.eq_ofNat_of_zero_le z0
    refine ⟨b, by omega, ?_⟩
    have h1 : (d : Int) ∣ (b : Int) ^ e - z ^ e := by
      refine Int.dvd_trans ?_ (sub_dvd_pow (b : Int) z e)
      have hb' : z % (d : Int) = (b : Int) := hb
      rw [← hb']
      refine ⟨-(z / (d : Int)), ?_⟩
      have := Int.emod_add_mul_ediv z (d : Int)
      rw [Int.mul_neg]
      omega
    have h2 : (d : Int) ∣ (b : Int) ^ e - (n : Int) := by
      have := Int.dvd_add h1 hz
      rwa [show (b : Int) ^ e - z ^ e + (z ^ e - (n : Int)) = (b : Int) ^ e - (n : Int) by omega] at this
    have h3 := Int.emod_emod_of_dvd
    have h4 : ((b ^ e : Nat) : Int) % (d : Int) = (n : Int) % (d : Int) := by
      have := Int.emod_eq_emod_iff_emod_sub_eq_zero.mpr (Int.emod_eq_zero_of_dvd (show (d : Int) ∣ ((b ^ e : Nat) : Int) - (n : Int) by push_cast; exact h2))
      exact this
    exact_mod_cast h4
  · rintro ⟨b, hb, e1⟩
    refine ⟨(b : Int), ?_⟩
    have h4 : ((b ^ e : Nat) : Int) % (d : Int) = (n : Int) % (d : Int) := by exact_mod_cast e1
    have := Int.dvd_of_emod_eq_zero (Int.emod_eq_emod_iff_emod_sub_eq_zero.mp h4)
    push_cast at this
    exact this
end Pm

namespace Pm
/-! ### all divisors by the greatest powers of primes -/
/-- q is the greatest power of p to M -/
def GrP (M p q : Nat) : Prop := ∃ k, 1 ≤ k ∧ q = p ^ k ∧ q ≤ M ∧ M < q * p
theorem GrP.dvd {M p q a : Nat} (h : GrP M p q) (p2 : 2 ≤ p) (ha : p ^ a ≤ M) : p ^ a ∣ q := by
  obtain ⟨k, _, rfl, _, h2⟩ := h
  refine Nat.pow_dvd_pow p (Nat.le_of_not_lt fun z => ?_)
  have : p ^ (k + 1) ≤ p ^ a := Nat.pow_le_pow_right (by omega) z
  rw [Nat.pow_succ] at this
  omega
/-- the whole power of a prime in d taken out -/
theorem split_prime (p : Nat) (hp : Prime p) : ∀ d : Nat, 1 ≤ d → ∃ a m, d = p ^ a * m ∧ ¬ p ∣ m := by
  intro d
  induction d using Nat.strongRecOn with
  | ind d ih =>
    intro h
    by_cases z : p ∣ d
    · obtain ⟨c, rfl⟩ := z
      have c1 : 1 ≤ c := by
        rcases Nat.eq_zero_or_pos c with w | w
        · subst w; omega
        · exact w
      have lt : c < p * c := by
        have := hp.1
        calc c = 1 * c := (Nat.one_mul c).symm
          _ < p * c := Nat.mul_lt_mul_of_pos_right (by omega) c1
      obtain ⟨a, m, e, nd⟩ := ih c lt c1
      exact ⟨a + 1, m, by rw [e, Nat.pow_succ, Nat.mul_comm (p ^ a) p, Nat.mul_assoc], nd⟩
    · exact ⟨0, d, by rw [Nat.pow_zero, Nat.one_mul], z⟩
theorem coprime_prime {p m : Nat} (hp : Prime p) (h : ¬ p ∣ m) : Nat.Coprime p m := by
  rcases hp.2 _ (Nat.gcd_dvd_left p m) with z | z
  · exact z
  · exact absurd (z ▸ Nat.gcd_dvd_right p m) h
theorem coprime_pow {p m : Nat} (hp : Prime p) (h : ¬ p ∣ m) (a : Nat) : Nat.Coprime (p ^ a) m := Nat.Coprime.pow_left a (coprime_prime hp h)
theorem res_all {M e : Nat} {n : Int} (h : ∀ p q, Prime p → GrP M p q → ResI q e n) : ∀ d : Nat, 1 ≤ d → d ≤ M → ResI d e n := by
  intro d
  induction d using Nat.strongRecOn with
  | ind d ih =>
    intro d1 dM
    by_cases z : d = 1
    · subst z
      exact ⟨0, Int.one_dvd _⟩
    · obtain ⟨p, hp, pd⟩ := prime_factor d (by omega)
      obtain ⟨a, m, e1, nd⟩ := split_prime p hp d d1
      have p2 := hp.1
      have a1 : 1 ≤ a := by
        rcases Nat.eq_zero_or_pos a with w | w
        · subst w
          rw [Nat.pow_zero, Nat.one_mul] at e1
          exact absurd (e1 ▸ pd) nd
        · exact w
      have m1 : 1 ≤ m := by
        rcases Nat.eq_zero_or_pos m with w | w
        · subst w; omega
        · exact w
      have pa : 2 ≤ p ^ a := Nat.le_trans p2 (Nat.le_self_pow (by omega) p)
      have paM : p ^ a ≤ M := by
        refine Nat.le_trans ?_ dM
        rw [e1]
        exact Nat.le_mul_of_pos_right _ m1
      have md : m < d := by
        rw [e1]
        calc m = 1 * m := (Nat.one_mul m).symm
          _ < p ^ a * m := Nat.mul_lt_mul_of_pos_right (by omega) m1
      have hm := ih m md m1 (by omega)
      obtain ⟨q, hq⟩ : ∃ q, GrP M p q := by
        have up : ∀ k, p ^ k ≤ M → 1 ≤ k → ∃ q, GrP M p q := by
          intro k
          induction hk : M - k generalizing k with
          | zero =>
            intro h1 k1
            have : k < p ^ k := Nat.lt_pow_self (by omega)
            omega
          | succ f ihf =>
            intro h1 k1
            by_cases w : p ^ (k + 1) ≤ M
            · exact ihf (k + 1) (by omega) w (by omega)
            · exact ⟨p ^ k, k, k1, rfl, h1, by have e := Nat.pow_succ p k; rw [← e]; exact Nat.lt_of_not_le w⟩
        exact up a paM a1
      rw [e1]
      exact ResI.together (coprime_pow hp nd a) ((h p q hp hq).dvd (hq.dvd p2 paM)) hm
theorem can_all {M e n : Nat} : (∀ d, 2 ≤ d → d ≤ M → IsRst d e (n % d)) ↔ ∀ p q, Prime p → GrP M p q → IsRst q e (n % q) := by
  constructor
  · intro h p q hp hq
    obtain ⟨k, k1, rfl, h1, h2⟩ := hq
    exact h _ (Nat.le_trans hp.1 (Nat.le_self_pow (by omega) p)) h1
  · intro h d d2 dM
    refine (resI_iff (by omega)).mp (res_all (M := M) (fun p q hp hq => ?_) d (by omega) dM)
    have q0 : 0 < q := by
      obtain ⟨k, k1, rfl, _⟩ := hq
      exact Nat.pow_pos (by have := hp.1; omega)
    exact (resI_iff q0).mpr (h p q hp hq)
/-! ### how many bases have a rest -/
noncomputable def cntR (R e d r : Nat) : Nat := S (fun b => I (1 ≤ b ∧ b ^ e % d = r)) (R + 1)
theorem cntR_succ (R e d r : Nat) : cntR (R + 1) e d r = cntR R e d r + I ((R + 1) ^ e % d = r) := by
  show S _ (R + 1) + I _ = S _ (R + 1) + I _
  congr 1
  exact I_congr ⟨fun h => h.2, fun h => ⟨by omega, h⟩⟩
theorem cntR_zero (e d r : Nat) : cntR 0 e d r = 0 := by
  show 0 + I _ = 0
  rw [I_f (fun h => absurd h.1 (by decide))]
/-- one turn more of the bases: just one class grows -/
theorem div_step {d : Int} (hd : 0 < d) (x : Int) : (x + 1) / d = x / d + if (x + 1) % d = 0 then 1 else 0 := by
  have h1 := Int.emod_add_mul_ediv x d
  have h2 := Int.emod_add_mul_ediv (x + 1) d
  have a1 := Int.emod_nonneg x (show d ≠ 0 by omega)
  have a2 := Int.emod_lt_of_pos x hd
  have b1 := Int.emod_nonneg (x + 1) (show d ≠ 0 by omega)
  have b2 := Int.emod_lt_of_pos (x + 1) hd
  generalize (x + 1) / d = q at *
  generalize x / d = q' at *
  generalize (x + 1) % d = s at *
  generalize x % d = s' at *
  have e : s - s' + d * (q - q') = 1 := by
    have : d * (q - q') = d * q - d * q' := Int.mul_sub ..
    omega
  by_cases z : s = 0
  · rw [if_pos z]
    have : q - q' = 1 := by
      have h3 : d * (q - q') ≤ d * 1 := by omega
      have h4 : d * 0 < d * (q - q') := by omega
      have := Int.le_of_mul_le_mul_left h3 hd
      have := Int.lt_of_mul_lt_mul_left h4 (by omega)
      omega
    omega
  · rw [if_neg z]
    have : q - q' = 0 := by
      have h3 : d * (q - q') < d * 1 := by omega
      have h4 : d * (-1) < d * (q - q') := by omega
      have := Int.lt_of_mul_lt_mul_left h3 (by omega)
      have := Int.lt_of_mul_lt_mul_left h4 (by omega)
      omega
    omega
theorem SI_one {n : Nat} (j : Nat) (x : Int) : SI (fun i => if i = j then x else 0) n = if j < n then x else 0 := by
  induction n with
  | zero => rw [if_neg (by omega)]; rfl
  | succ n ih =>
    show SI _ n + (if n = j then x else 0) = _
    rw [ih]
    by_cases z : n = j
    · rw [if_neg (by omega), if_pos z, if_pos (by omega)]; omega
    · by_cases w : j < n
      · rw [if_pos w, if_neg z, if_pos (by omega)]; omega
      · rw [if_neg w, if_neg z, if_neg (by omega)]; omega
/-- the sum over the first bases 1 .. d -/
def sumF (P : Nat → Bool) (R : Int) (d : Nat) : Int := SI (fun c => if P (c + 1) = true then (R - ((c : Int) + 1)) / (d : Int) + 1 else 0) d
theorem sumF_zero (P : Nat → Bool) (d : Nat) : sumF P 0 d = 0 := by
  unfold sumF
  rw [SI_congr (g := fun _ => 0) fun c hc => ?_, SI_zero]
  have e : (0 - ((c : Int) + 1)) / (d : Int) = -1 := by
    rw [Int.ediv_eq_iff_of_pos (by omega)]
    constructor <;> omega
  rw [e]
  split <;> rfl
theorem sumF_succ {P : Nat → Bool} {d : Nat} (hd : 0 < d) (per : ∀ b c, b % d = c % d → P b = P c) (R : Nat) : sumF P ((R : Int) + 1) d = sumF P R d + if P (R + 1) = true then 1 else 0 := by
  have h : ∀ c, c < d → (if P (c + 1) = true then ((R : Int) + 1 - ((c : Int) + 1)) / (d : Int) + 1 else 0) = (if P (c + 1) = true then ((R : Int) - ((c : Int) + 1)) / (d : Int) + 1 else 0) + if c = R % d then (if P (R + 1) = true then 1 else 0) else 0 := fun c hc => by
    have st := div_step (show (0 : Int) < (d : Int) by omega) ((R : Int) - ((c : Int) + 1))
    have e0 : (R : Int) - ((c : Int) + 1) + 1 = (R : Int) - (c : Int) := by omega
    rw [e0] at st
    rw [show (R : Int) + 1 - ((c : Int) + 1) = (R : Int) - (c : Int) by omega]
    have em : ((R : Int) - (c : Int)) % (d : Int) = 0 ↔ c = R % d := by
      rw [← Int.emod_eq_emod_iff_emod_sub_eq_zero]
      have h1 : ((c : Nat) : Int) % (d : Int) = (c : Int) := by
        rw [Int.emod_eq_of_lt (by omega) (by omega)]
      rw [h1]
      constructor
      · intro e
        have : ((R % d : Nat) : Int) = (c : Int) := by push_cast; exact e
        omega
      · intro e
        have : ((R % d : Nat) : Int) = (c : Int) := by omega
        push_cast at this
        exact this
    by_cases z : c = R % d
    · rw [if_pos z]
      rw [if_pos (em.mpr z)] at st
      have hp : P (c + 1) = P (R + 1) := per _ _ (by
        rw [z]
        have := Nat.mod_add_mod R d 1
        exact this)
      rw [hp]
      by_cases w : P (R + 1) = true
      · rw [if_pos w, if_pos w, if_pos w, st]; try omega
      · rw [if_neg w, if_neg w, if_neg w]; rfl
    · rw [if_neg z]
      rw [if_neg (fun w => z (em.mp w))] at st
      rw [st]
      simp
  unfold sumF
  rw [SI_congr h, SI_add, SI_one, if_pos (Nat.mod_lt _ hd)]
theorem sumF_cnt {e d r : Nat} (hd : 0 < d) : ∀ R : Nat, sumF (fun b => decide (b ^ e % d = r)) (R : Int) d = ((cntR R e d r : Nat) : Int)
  | 0 => by rw [cntR_zero]; exact sumF_zero _ _
  | R + 1 => by
    have ih := sumF_cnt (e := e) (r := r) hd R
    push_cast
    rw [sumF_succ hd (fun b c h => by rw [Nat.pow_mod b, h, ← Nat.pow_mod]) R, ih, cntR_succ, I_ite]
    push_cast
    congr 1
    by_cases z : (R + 1) ^ e % d = r
    · rw [if_pos (by simpa using z), if_pos z]; rfl
    · rw [if_neg (by simpa using z), if_neg z]; rfl
/-- the same by the classes 0 .. d - 1 -/
theorem sumF_law {e d r R : Nat} (hd : 0 < d) (he : 1 ≤ e) : SI (fun c => if c ^ e % d = r then ((R : Int) + (d : Int) - (c : Int)) / (d : Int) - (if c = 0 then 1 else 0) else 0) d = ((cntR R e d r : Nat) : Int) := by
  rw [← sumF_cnt hd R]
  unfold sumF
  obtain ⟨k, rfl⟩ : ∃ k, d = k + 1 := ⟨d - 1, by omega⟩
  have hh : ∀ (f : Nat → Int) (n : Nat), SI f (n + 1) = f 0 + SI (fun i => f (i + 1)) n := fun f n => by
    induction n with
    | zero => show 0 + f 0 = f 0 + 0; omega
    | succ n ih =>
      show SI f (n + 1) + f (n + 1) = f 0 + (SI (fun i => f (i + 1)) n + f (n + 1))
      rw [ih]; omega
  rw [hh]
  show _ = SI (fun c => if decide ((c + 1) ^ e % (k + 1) = r) = true then ((R : Int) - ((c : Int) + 1)) / ((k + 1 : Nat) : Int) + 1 else 0) k + (if decide ((k + 1) ^ e % (k + 1) = r) = true then ((R : Int) - ((k : Int) + 1)) / ((k + 1 : Nat) : Int) + 1 else 0)
  have e1 : ∀ x : Int, (x + ((k + 1 : Nat) : Int)) / ((k + 1 : Nat) : Int) = x / ((k + 1 : Nat) : Int) + 1 := fun x => by
    rw [Int.add_ediv_of_dvd_right (Int.dvd_refl _), Int.ediv_self (by omega)]
  have e2 : (0 : Nat) ^ e % (k + 1) = (k + 1) ^ e % (k + 1) := by
    rw [Nat.pow_mod (k + 1), Nat.mod_self]
  have e3 : ((R : Int) + ((k + 1 : Nat) : Int) - ((0 : Nat) : Int)) / ((k + 1 : Nat) : Int) - (if (0 : Nat) = 0 then 1 else 0) = ((R : Int) - ((k : Int) + 1)) / ((k + 1 : Nat) : Int) + 1 := by
    rw [if_pos rfl, show (R : Int) + ((k + 1 : Nat) : Int) - ((0 : Nat) : Int) = (R : Int) + ((k + 1 : Nat) : Int) by omega, e1]
    rw [show (R : Int) = ((R : Int) - ((k : Int) + 1)) + ((k + 1 : Nat) : Int) by omega, e1]
    rw [show ((R : Int) - ((k : Int) + 1)) + ((k + 1 : Nat) : Int) - ((k : Int) + 1) = (R : Int) - ((k : Int) + 1) by omega]
    omega
  rw [e3, e2]
  have e4 : SI (fun i => if (i + 1) ^ e % (k + 1) = r then ((R : Int) + ((k + 1 : Nat) : Int) - ((i + 1 : Nat) : Int)) / ((k + 1 : Nat) : Int) - (if i + 1 = 0 then 1 else 0) else 0) k = SI (fun c => if decide ((c + 1) ^ e % (k + 1) = r) = true then ((R : Int) - ((c : Int) + 1)) / ((k + 1 : Nat) : Int) + 1 else 0) k := SI_congr fun c hc => by
    rw [if_neg (show ¬ c + 1 = 0 by omega)]
    rw [show (R : Int) + ((k + 1 : Nat) : Int) - ((c + 1 : Nat) : Int) = ((R : Int) - ((c : Int) + 1)) + ((k + 1 : Nat) : Int) by omega, e1]
    by_cases z : (c + 1) ^ e % (k + 1) = r
    · rw [if_pos z, if_pos (decide_eq_true z)]; omega
    · rw [if_neg z, if_neg (by simpa using z)]
  rw [e4]
  by_cases z : (k + 1) ^ e % (k + 1) = r
  · rw [if_pos z, if_pos (decide_eq_true z)]; omega
  · rw [if_neg z, if_neg (by simpa using z)]; omega
/-- all rests together -/
theorem cntR_all {R e d : Nat} (hd : 0 < d) : S (fun r => cntR R e d r) d = R := by
  induction R with
  | zero =>
    rw [S_congr (g := fun _ => 0) fun r _ => cntR_zero e d r, S_zero]
  | succ R ih =>
    rw [S_congr fun r _ => cntR_succ R e d r, S_add, ih]
    congr 1
    rw [S_mark (A := fun r => (R + 1) ^ e % d = r) (b0 := (R + 1) ^ e % d) (P := True) (fun b => ⟨fun h => ⟨h.symm, trivial⟩, fun h => h.1.symm⟩) (fun _ => Nat.mod_lt _ hd)]
    exact I_t trivial
theorem cntR_pos {R e d r : Nat} : 0 < cntR R e d r ↔ ∃ b, 1 ≤ b ∧ b ≤ R ∧ b ^ e % d = r := by
  induction R with
  | zero =>
    rw [cntR_zero]
    exact ⟨fun h => by omega, fun ⟨b, h1, h2, _⟩ => by omega⟩
  | succ R ih =>
    rw [cntR_succ]
    constructor
    · intro h
      by_cases z : (R + 1) ^ e % d = r
      · exact ⟨R + 1, by omega, Nat.le_refl _, z⟩
      · rw [I_f z, Nat.add_zero] at h
        obtain ⟨b, h1, h2, h3⟩ := ih.mp h
        exact ⟨b, h1, by omega, h3⟩
    · rintro ⟨b, h1, h2, h3⟩
      by_cases z : b = R + 1
      · subst z
        rw [I_t h3]; omega
      · have := ih.mpr ⟨b, h1, by omega, h3⟩
        omega
theorem rst_pos {R e d r : Nat} (hd : 0 < d) (h : 0 < cntR R e d r) : IsRst d e r := by
  obtain ⟨b, _, _, rfl⟩ := cntR_pos.mp h
  exact rst_of e b hd
theorem pos_rst {R e d r : Nat} (he : 1 ≤ e) (hR : d ≤ R) (h : IsRst d e r) : 0 < cntR R e d r := by
  obtain ⟨b, hb, rfl⟩ := h
  by_cases z : b = 0
  · subst z
    refine cntR_pos.mpr ⟨d, by omega, hR, ?_⟩
    rw [Nat.pow_mod d, Nat.mod_self]
  · exact cntR_pos.mpr ⟨b, by omega, by omega, rfl⟩
end Pm

namespace Pm
/-! ### how often a prime divides -/
/-- how often p divides n -/
def vl (p n : Nat) : Nat := if h : 2 ≤ p ∧ 1 ≤ n ∧ p ∣ n then vl p (n / p) + 1 else 0
termination_by n
decreasing_by exact Nat.div_lt_self (by omega) (by omega)
theorem vl_no {p n : Nat} (h : ¬ p ∣ n) : vl p n = 0 := by
  rw [vl, dif_neg fun z => h z.2.2]
theorem vl_mulp {p n : Nat} (p2 : 2 ≤ p) (n1 : 1 ≤ n) : vl p (p * n) = vl p n + 1 := by
  have pos : 1 ≤ p * n := Nat.mul_pos (by omega) (by omega)
  rw [vl, dif_pos ⟨p2, pos, Nat.dvd_mul_right p n⟩, Nat.mul_div_cancel_left _ (by omega)]
theorem vl_of {p m : Nat} (p2 : 2 ≤ p) (m1 : 1 ≤ m) (h : ¬ p ∣ m) : ∀ a, vl p (p ^ a * m) = a
  | 0 => by rw [Nat.pow_zero, Nat.one_mul, vl_no h]
  | a + 1 => by
    have pos : 1 ≤ p ^ a * m := Nat.mul_pos (Nat.pow_pos (by omega)) (by omega)
    rw [Nat.pow_succ, Nat.mul_comm (p ^ a) p, Nat.mul_assoc, vl_mulp p2 pos, vl_of p2 m1 h a]
theorem vl_split {p n : Nat} (hp : Prime p) (n1 : 1 ≤ n) : ∃ m, n = p ^ vl p n * m ∧ ¬ p ∣ m ∧ 1 ≤ m := by
  obtain ⟨a, m, e, nd⟩ := split_prime p hp n n1
  have m1 : 1 ≤ m := by
    rcases Nat.eq_zero_or_pos m with w | w
    · subst w; omega
    · exact w
  have : vl p n = a := by rw [e]; exact vl_of hp.1 m1 nd a
  rw [this]
  exact ⟨m, e, nd, m1⟩
theorem prime_mul {p a b : Nat} (hp : Prime p) (h : p ∣ a * b) : p ∣ a ∨ p ∣ b := by
  by_cases z : p ∣ a
  · exact .inl z
  · exact .inr ((coprime_prime hp z).dvd_of_dvd_mul_left h)
theorem prime_pow {p a : Nat} (hp : Prime p) : ∀ k, p ∣ a ^ k → p ∣ a
  | 0, h => by
    rw [Nat.pow_zero] at h
    have := Nat.le_of_dvd (by decide) h
    have := hp.1
    omega
  | k + 1, h => by
    rw [Nat.pow_succ] at h
    rcases prime_mul hp h with z | z
    · exact prime_pow hp k z
    · exact z
theorem vl_mul {p a b : Nat} (hp : Prime p) (a1 : 1 ≤ a) (b1 : 1 ≤ b) : vl p (a * b) = vl p a + vl p b := by
  obtain ⟨m, ea, na, m1⟩ := vl_split hp a1
  obtain ⟨k, eb, nb, k1⟩ := vl_split hp b1
  have e : a * b = p ^ (vl p a + vl p b) * (m * k) := by
    conv => lhs; rw [ea, eb]
    rw [Nat.pow_add]
    simp only [Nat.mul_assoc, Nat.mul_left_comm]
  conv => lhs; rw [e]
  exact vl_of hp.1 (Nat.mul_pos m1 k1) (fun z => (prime_mul hp z).elim na nb) _
theorem vl_one (p : Nat) : vl p 1 = 0 := by
  rw [vl]
  split
  · rename_i h
    have := Nat.le_of_dvd (by decide) h.2.2
    omega
  · rfl
theorem vl_pow {p a : Nat} (hp : Prime p) (a1 : 1 ≤ a) : ∀ k, vl p (a ^ k) = k * vl p a
  | 0 => by rw [Nat.pow_zero, vl_one, Nat.zero_mul]
  | k + 1 => by rw [Nat.pow_succ, vl_mul hp (Nat.pow_pos a1) a1, vl_pow hp a1 k, Nat.succ_mul]
theorem vl_pos {p n : Nat} (hp : Prime p) (n1 : 1 ≤ n) : 0 < vl p n ↔ p ∣ n := by
  constructor
  · intro h
    refine Classical.byContradiction fun z => ?_
    rw [vl_no z] at h
    omega
  · intro h
    rw [vl, dif_pos ⟨hp.1, n1, h⟩]
    omega
theorem pow_dvd_iff {p n k : Nat} (hp : Prime p) (n1 : 1 ≤ n) : p ^ k ∣ n ↔ k ≤ vl p n := by
  constructor
  · rintro ⟨c, rfl⟩
    have c1 : 1 ≤ c := by
      rcases Nat.eq_zero_or_pos c with w | w
      · subst w; omega
      · exact w
    have p1 : 1 ≤ p := by have := hp.1; omega
    have e : vl p p = 1 := by
      have := vl_of hp.1 (Nat.le_refl 1) (fun z => by have := Nat.le_of_dvd (by decide) z; have := hp.1; omega) 1
      rwa [Nat.pow_one, Nat.mul_one] at this
    rw [vl_mul hp (Nat.pow_pos p1) c1, vl_pow hp p1, e]
    omega
  · intro h
    obtain ⟨m, e, _, _⟩ := vl_split hp n1
    conv => rhs; rw [e]
    exact Nat.dvd_trans (Nat.pow_dvd_pow p h) (Nat.dvd_mul_right _ _)
theorem vl_self {p : Nat} (hp : Prime p) : vl p p = 1 := by
  have := vl_of hp.1 (Nat.le_refl 1) (fun z => by have := Nat.le_of_dvd (by decide) z; have := hp.1; omega) 1
  rwa [Nat.pow_one, Nat.mul_one] at this
theorem vl_prime_ne {p q : Nat} (hp : Prime p) (hq : Prime q) (h : p ≠ q) : vl p q = 0 := vl_no fun z => by
  rcases hq.2 p z with w | w
  · have := hp.1; omega
  · exact h w
theorem eq_of_vl : ∀ a b : Nat, 1 ≤ a → 1 ≤ b → (∀ p, Prime p → vl p a = vl p b) → a = b := by
  intro a
  induction a using Nat.strongRecOn with
  | ind a ih =>
    intro b a1 b1 h
    by_cases z : a = 1
    · subst z
      refine Classical.byContradiction fun w => ?_
      obtain ⟨p, hp, pd⟩ := prime_factor b (by omega)
      have := (vl_pos hp b1).mpr pd
      rw [← h p hp, vl_one] at this
      omega
    · obtain ⟨p, hp, pd⟩ := prime_factor a (by omega)
      have p2 := hp.1
      have pb : p ∣ b := (vl_pos hp b1).mp (by rw [← h p hp]; exact (vl_pos hp a1).mpr pd)
      obtain ⟨c, rfl⟩ := pd
      obtain ⟨d, rfl⟩ := pb
      have c1 : 1 ≤ c := by
        rcases Nat.eq_zero_or_pos c with w | w
        · subst w; omega
        · exact w
      have d1 : 1 ≤ d := by
        rcases Nat.eq_zero_or_pos d with w | w
        · subst w; omega
        · exact w
      have lt : c < p * c := by
        calc c = 1 * c := (Nat.one_mul c).symm
          _ < p * c := Nat.mul_lt_mul_of_pos_right (by omega) c1
      congr 1
      refine ih c lt d c1 d1 fun q hq => ?_
      have := h q hq
      rw [vl_mul hq (by omega) c1, vl_mul hq (by omega) d1] at this
      omega
/-- dividing by all primes as often -/
theorem dvd_of_vl {a b : Nat} (a1 : 1 ≤ a) (b1 : 1 ≤ b) (h : ∀ p, Prime p → vl p a ≤ vl p b) : a ∣ b := by
  have hg : Nat.gcd a b = a := by
    have g1 : 1 ≤ Nat.gcd a b := Nat.gcd_pos_of_pos_left _ a1
    refine eq_of_vl _ _ g1 a1 fun p hp => Nat.le_antisymm ?_ ?_
    · exact (pow_dvd_iff hp a1).mp (Nat.dvd_trans ((pow_dvd_iff hp g1).mpr (Nat.le_refl _)) (Nat.gcd_dvd_left a b))
    · refine (pow_dvd_iff hp g1).mp (Nat.dvd_gcd ((pow_dvd_iff hp a1).mpr (Nat.le_refl _)) ((pow_dvd_iff hp b1).mpr (h p hp)))
  rw [← hg]
  exact Nat.gcd_dvd_right a b
theorem vl_le {p a b : Nat} (hp : Prime p) (a1 : 1 ≤ a) (b1 : 1 ≤ b) (h : a ∣ b) : vl p a ≤ vl p b := by
  obtain ⟨c, rfl⟩ := h
  have c1 : 1 ≤ c := by
    rcases Nat.eq_zero_or_pos c with w | w
    · subst w; omega
    · exact w
  rw [vl_mul hp a1 c1]
  omega
/-- powers by the exponents of all primes -/
theorem pow_of_vl {e : Nat} (he : 1 ≤ e) : ∀ n : Nat, 1 ≤ n → (∀ p, Prime p → e ∣ vl p n) → ∃ c, 1 ≤ c ∧ c ^ e = n := by
  intro n
  induction n using Nat.strongRecOn with
  | ind n ih =>
    intro n1 h
    by_cases z : n = 1
    · exact ⟨1, Nat.le_refl 1, by rw [z, Nat.one_pow]⟩
    · obtain ⟨p, hp, pd⟩ := prime_factor n (by omega)
      have p2 := hp.1
      obtain ⟨m, e1, nd, m1⟩ := vl_split hp n1
      have v1 := (vl_pos hp n1).mpr pd
      obtain ⟨k, hk⟩ := h p hp
      have pv : 1 < p ^ vl p n := Nat.one_lt_pow (by omega) (by omega)
      have lt : m < n := by
        conv => rhs; rw [e1]
        calc m = 1 * m := (Nat.one_mul m).symm
          _ < p ^ vl p n * m := Nat.mul_lt_mul_of_pos_right pv m1
      obtain ⟨c, c1, hc⟩ := ih m lt m1 fun q hq => by
        by_cases w : q = p
        · rw [w, vl_no nd]; exact Nat.dvd_zero e
        · have := h q hq
          rw [e1, vl_mul hq (Nat.pow_pos (by omega)) m1, vl_pow hq (by omega), vl_prime_ne hq hp w, Nat.mul_zero, Nat.zero_add] at this
          exact this
      refine ⟨p ^ k * c, Nat.mul_pos (Nat.pow_pos (by omega)) c1, ?_⟩
      rw [Nat.mul_pow, hc, ← Nat.pow_mul, Nat.mul_comm k e, ← hk, ← e1]
theorem vl_of_pow {c e n : Nat} (n1 : 1 ≤ n) (he : 1 ≤ e) (h : c ^ e = n) : ∀ p, Prime p → e ∣ vl p n := fun p hp => by
  have c1 : 1 ≤ c := by
    rcases Nat.eq_zero_or_pos c with w | w
    · subst w
      rw [Nat.zero_pow (by omega)] at h
      omega
    · exact w
  rw [← h, vl_pow hp c1]
  exact Nat.dvd_mul_right _ _
/-! ### parted -/
/-- the pairs of the primes below D of n; l is what is left, IsRoot by many is r -/
structure Pt (n : Nat) (L : List (Nat × Nat)) (l D : Nat) : Prop where
  pr : ∀ w ∈ L, Prime w.1 ∧ w.1 < D ∧ w.2 = vl w.1 n ∧ 1 ≤ w.2
  all : ∀ p, Prime p → p < D → p ∣ n → (p, vl p n) ∈ L
  nd : (L.map (·.1)).Pairwise (· < ·)
  l1 : 1 ≤ l
  lo : ∀ p, Prime p → p < D → ¬ p ∣ l
  hi : ∀ p, Prime p → D ≤ p → vl p l = vl p n
theorem Pt.new {n : Nat} (n1 : 1 ≤ n) : Pt n [] n 2 := ⟨fun w h => by simp at h, fun p hp lt => absurd hp.1 (by omega), List.Pairwise.nil, n1, fun p hp lt => absurd hp.1 (by omega), fun p _ _ => rfl⟩
theorem Pt.prime {n l D : Nat} {L : List (Nat × Nat)} (h : Pt n L l D) (D2 : 2 ≤ D) (hd : D ∣ l) : Prime D := by
  obtain ⟨q, hq, qd⟩ := prime_factor D D2
  have : D ≤ q := Nat.le_of_not_lt fun z => h.lo q hq z (Nat.dvd_trans qd hd)
  have := Nat.le_of_dvd (by omega) qd
  have e : q = D := by omega
  rw [← e]
  exact hq
theorem Pt.none {n l D : Nat} {L : List (Nat × Nat)} (h : Pt n L l D) (n1 : 1 ≤ n) (nd : ¬ D ∣ l) : Pt n L l (D + 1) := by
  refine ⟨fun w m => ?_, fun p hp lt pd => ?_, h.nd, h.l1, fun p hp lt => ?_, fun p hp le => h.hi p hp (by omega)⟩
  · obtain ⟨a, b, c⟩ := h.pr w m
    exact ⟨a, by omega, c⟩
  · by_cases z : p = D
    · subst z
      have := h.hi p hp (Nat.le_refl _)
      rw [vl_no nd] at this
      have := (vl_pos hp n1).mpr pd
      omega
    · exact h.all p hp (by omega) pd
  · by_cases z : p = D
    · rw [z]; exact nd
    · exact h.lo p hp (by omega)
theorem Pt.some {n l l' D t : Nat} {L : List (Nat × Nat)} (h : Pt n L l D) (n1 : 1 ≤ n) (D2 : 2 ≤ D) (t1 : 1 ≤ t) (e : l = D ^ t * l') (nd : ¬ D ∣ l') : Pt n (L ++ [(D, t)]) l' (D + 1) := by
  have hD : Prime D := h.prime D2 (by rw [e]; exact Nat.dvd_trans (Nat.dvd_trans (by rw [Nat.pow_one]; exact Nat.dvd_refl D : D ∣ D ^ 1) (Nat.pow_dvd_pow D t1)) (Nat.dvd_mul_right _ _))
  have l1' : 1 ≤ l' := by
    rcases Nat.eq_zero_or_pos l' with w | w
    · have := h.l1
      rw [e, w] at this
      omega
    · exact w
  have vD : vl D n = t := by
    rw [← h.hi D hD (Nat.le_refl _), e]
    exact vl_of D2 l1' nd t
  refine ⟨fun w m => ?_, fun p hp lt pd => ?_, ?_, l1', fun p hp lt z => ?_, fun p hp le => ?_⟩
  · rcases List.mem_append.mp m with m | m
    · obtain ⟨a, b, c⟩ := h.pr w m
      exact ⟨a, by omega, c⟩
    · rw [List.mem_singleton] at m
      subst m
      exact ⟨hD, by show D < D + 1; omega, vD.symm, t1⟩
  · by_cases z : p = D
    · subst z
      rw [vD]
      exact List.mem_append_right _ (List.mem_singleton.mpr rfl)
    · exact List.mem_append_left _ (h.all p hp (by omega) pd)
  · rw [List.map_append, List.pairwise_append]
    refine ⟨h.nd, by simp, fun a ha b hb => ?_⟩
    obtain ⟨w, hw, rfl⟩ := List.mem_map.mp ha
    have : b = D := by simpa using hb
    rw [this]
    exact (h.pr w hw).2.1
  · by_cases w : p = D
    · exact nd (w ▸ z)
    · exact h.lo p hp (by omega) (by rw [e]; exact Nat.dvd_trans z (Nat.dvd_mul_left _ _))
  · rw [← h.hi p hp (by omega), e, vl_mul hp (Nat.pow_pos (by omega)) l1', vl_pow hp (by omega), vl_prime_ne hp hD (by omega), Nat.mul_zero, Nat.zero_add]
/-- all pairs: primes rising, each as often as it divides -/
structure Fa (n : Nat) (L : List (Nat × Nat)) : Prop where
  mem : ∀ p t, (p, t) ∈ L ↔ Prime p ∧ p ∣ n ∧ t = vl p n
  nd : (L.map (·.1)).Nodup
theorem up_nodup {l : List Nat} (h : l.Pairwise (· < ·)) : l.Nodup := h.imp fun a => Nat.ne_of_lt a
theorem Pt.whole {n l D : Nat} {L : List (Nat × Nat)} (h : Pt n L l D) (n1 : 1 ≤ n) (lt : l < D * D) (D2 : 2 ≤ D) : Fa n (if 1 < l then L ++ [(l, 1)] else L) := by
  have memL : ∀ p t, (p, t) ∈ L ↔ Prime p ∧ p < D ∧ p ∣ n ∧ t = vl p n := fun p t => by
    constructor
    · intro m
      obtain ⟨a, b, c, d⟩ := h.pr _ m
      refine ⟨a, b, (vl_pos a n1).mp ?_, c⟩
      have c' : t = vl p n := c
      have d' : 1 ≤ t := d
      omega
    · rintro ⟨a, b, c, rfl⟩
      exact h.all p a b c
  by_cases z : 1 < l
  · rw [if_pos z]
    have hl : Prime l := prime_of_trial z fun d d2 dd dl => by
      obtain ⟨q, hq, qd⟩ := prime_factor d d2
      have : D ≤ q := Nat.le_of_not_lt fun w => h.lo q hq w (Nat.dvd_trans qd dl)
      have := Nat.le_of_dvd (by omega) qd
      have : D * D ≤ d * d := Nat.mul_le_mul (by omega) (by omega)
      omega
    have Dl : D ≤ l := Nat.le_of_not_lt fun w => h.lo l hl w (Nat.dvd_refl l)
    have vll : vl l n = 1 := by rw [← h.hi l hl Dl, vl_self hl]
    refine ⟨fun p t => ?_, ?_⟩
    · rw [List.mem_append, memL, List.mem_singleton, Prod.mk.injEq]
      constructor
      · rintro (⟨a, _, b, c⟩ | ⟨rfl, rfl⟩)
        · exact ⟨a, b, c⟩
        · exact ⟨hl, (vl_pos hl n1).mp (by omega), vll.symm⟩
      · rintro ⟨a, b, c⟩
        by_cases w : p < D
        · exact .inl ⟨a, w, b, c⟩
        · have := h.hi p a (by omega)
          have vp := (vl_pos a n1).mpr b
          have pl : p ∣ l := (vl_pos a h.l1).mp (by omega)
          have e : p = l := by
            rcases hl.2 p pl with u | u
            · have := a.1; omega
            · exact u
          exact .inr ⟨e, by rw [c, e, vll]⟩
    · refine up_nodup ?_
      rw [List.map_append, List.pairwise_append]
      refine ⟨h.nd, by simp, fun a ha b hb => ?_⟩
      obtain ⟨w, hw, rfl⟩ := List.mem_map.mp ha
      have : b = l := by simpa using hb
      have := (h.pr w hw).2.1
      omega
  · rw [if_neg z]
    have l1 : l = 1 := by have := h.l1; omega
    refine ⟨fun p t => ?_, up_nodup h.nd⟩
    rw [memL]
    constructor
    · rintro ⟨a, _, b, c⟩
      exact ⟨a, b, c⟩
    · rintro ⟨a, b, c⟩
      refine ⟨a, Nat.lt_of_not_le fun w => ?_, b, c⟩
      have := h.hi p a w
      rw [l1, vl_one] at this
      have := (vl_pos a n1).mpr b
      omega
end Pm

namespace Pm
/-! ### products of numbers that come and go -/
def prd : List Nat → Nat
  | [] => 1
  | n :: ns => n * prd ns
def val (p : Nat) : List Nat → Nat
  | [] => 0
  | n :: ns => vl p n + val p ns
theorem prd_pos : ∀ {ns : List Nat}, (∀ n ∈ ns, 1 ≤ n) → 1 ≤ prd ns
  | [], _ => Nat.le_refl 1
  | n :: ns, h => Nat.mul_pos (h n (List.mem_cons_self ..)) (prd_pos fun m hm => h m (List.mem_cons_of_mem _ hm))
theorem vl_prd {p : Nat} (hp : Prime p) : ∀ {ns : List Nat}, (∀ n ∈ ns, 1 ≤ n) → vl p (prd ns) = val p ns
  | [], _ => vl_one p
  | n :: ns, h => by
    show vl p (n * prd ns) = _
    rw [vl_mul hp (h n (List.mem_cons_self ..)) (prd_pos fun m hm => h m (List.mem_cons_of_mem _ hm)), vl_prd hp fun m hm => h m (List.mem_cons_of_mem _ hm)]
    rfl
theorem val_append (p : Nat) (xs : List Nat) : ∀ ys, val p (ys ++ xs) = val p ys + val p xs
  | [] => (Nat.zero_add _).symm
  | y :: ys => by
    show vl p y + val p (ys ++ xs) = vl p y + val p ys + val p xs
    rw [val_append p xs ys, Nat.add_assoc]
theorem val_push (p n : Nat) (ns : List Nat) : val p (ns ++ [n]) = val p ns + vl p n := by
  rw [val_append]
  show _ + (vl p n + 0) = _
  omega
theorem prd_append (xs : List Nat) : ∀ ys, prd (ys ++ xs) = prd ys * prd xs
  | [] => (Nat.one_mul _).symm
  | y :: ys => by
    show y * prd (ys ++ xs) = y * prd ys * prd xs
    rw [prd_append xs ys, Nat.mul_assoc]
theorem val_perm (p : Nat) {xs ys : List Nat} (h : xs.Perm ys) : val p xs = val p ys := by
  induction h with
  | nil => rfl
  | cons x _ ih => show vl p x + _ = vl p x + _; rw [ih]
  | swap x y l => show vl p y + (vl p x + val p l) = vl p x + (vl p y + val p l); omega
  | trans _ _ a b => rw [a, b]
theorem prd_perm {xs ys : List Nat} (h : xs.Perm ys) : prd xs = prd ys := by
  induction h with
  | nil => rfl
  | cons x _ ih => show x * _ = x * _; rw [ih]
  | swap x y l => show y * (x * prd l) = x * (y * prd l); rw [← Nat.mul_assoc, ← Nat.mul_assoc, Nat.mul_comm y x]
  | trans _ _ a b => rw [a, b]
theorem val_erase (p : Nat) {n : Nat} {ns : List Nat} (h : n ∈ ns) : val p (ns.erase n) + vl p n = val p ns := by
  have := val_perm p (List.perm_cons_erase h)
  rw [this]
  show _ = vl p n + _
  omega
theorem val_eraseIdx (p : Nat) : ∀ {ns : List Nat} {j n : Nat}, ns[j]? = some n → val p (ns.eraseIdx j) + vl p n = val p ns
  | [], j, n, h => by simp at h
  | x :: ns, 0, n, h => by
    have : x = n := by simpa using h
    subst this
    show val p ns + vl p x = vl p x + val p ns
    omega
  | x :: ns, j + 1, n, h => by
    have h' : ns[j]? = some n := by simpa using h
    have := val_eraseIdx p h'
    show vl p x + val p (ns.eraseIdx j) + vl p n = vl p x + val p ns
    omega
theorem le_val {p n : Nat} {ns : List Nat} (h : n ∈ ns) : vl p n ≤ val p ns := by
  have := val_erase p h
  omega
theorem val_zero {p : Nat} : ∀ {ns : List Nat}, (∀ n ∈ ns, vl p n = 0) → val p ns = 0
  | [], _ => rfl
  | n :: ns, h => by
    show vl p n + val p ns = 0
    rw [h n (List.mem_cons_self ..), val_zero fun m hm => h m (List.mem_cons_of_mem _ hm)]
theorem val_pos_ex {p : Nat} : ∀ {ns : List Nat}, 0 < val p ns → ∃ n ∈ ns, 0 < vl p n
  | [], h => absurd h (by simp [val])
  | n :: ns, h => by
    by_cases z : 0 < vl p n
    · exact ⟨n, List.mem_cons_self .., z⟩
    · have h' : 0 < vl p n + val p ns := h
      have h2 : 0 < val p ns := by
        clear h
        omega
      obtain ⟨m, hm, hv⟩ := val_pos_ex (ns := ns) h2
      exact ⟨m, List.mem_cons_of_mem _ hm, hv⟩
theorem vl_bound {p n : Nat} (n1 : 1 ≤ n) (hn : n ≤ 1000000) (hp : Prime p) : vl p n ≤ 20 := by
  refine Nat.le_of_not_lt fun z => ?_
  have h1 := (pow_dvd_iff hp n1).mpr (Nat.le_refl (vl p n))
  have h2 := Nat.le_of_dvd (by omega) h1
  have h3 : 2 ^ 20 ≤ p ^ vl p n := Nat.le_trans (Nat.pow_le_pow_right (by decide) (by omega)) (Nat.pow_le_pow_left hp.1 _)
  omega
/-- small numbers: from 1 to 10 ** 6 -/
def Sm (ns : List Nat) : Prop := ∀ n ∈ ns, 1 ≤ n ∧ n ≤ 1000000
theorem Sm.one {ns : List Nat} (h : Sm ns) : ∀ n ∈ ns, 1 ≤ n := fun n hn => (h n hn).1
theorem Sm.push {ns : List Nat} {n : Nat} (h : Sm ns) (n1 : 1 ≤ n) (n2 : n ≤ 1000000) : Sm (ns ++ [n]) := fun m hm => by
  rcases List.mem_append.mp hm with z | z
  · exact h m z
  · rw [List.mem_singleton.mp z]; exact ⟨n1, n2⟩
theorem Sm.sub {ns ms : List Nat} (h : Sm ns) (s : ∀ m ∈ ms, m ∈ ns) : Sm ms := fun m hm => h m (s m hm)
theorem val_bound {p : Nat} (hp : Prime p) : ∀ {ns : List Nat}, Sm ns → val p ns ≤ 20 * ns.length
  | [], _ => Nat.le_refl 0
  | n :: ns, h => by
    have h1 := vl_bound (h n (List.mem_cons_self ..)).1 (h n (List.mem_cons_self ..)).2 hp
    have h2 := val_bound hp (ns := ns) fun m hm => h m (List.mem_cons_of_mem _ hm)
    show vl p n + val p ns ≤ _
    rw [List.length_cons]
    omega
theorem prd_bound : ∀ {ns : List Nat}, Sm ns → prd ns ≤ 2 ^ (20 * ns.length)
  | [], _ => Nat.le_refl 1
  | n :: ns, h => by
    have h1 := (h n (List.mem_cons_self ..)).2
    have h2 := prd_bound (ns := ns) fun m hm => h m (List.mem_cons_of_mem _ hm)
    show n * prd ns ≤ _
    rw [List.length_cons, Nat.mul_succ, Nat.pow_add, Nat.mul_comm (2 ^ _)]
    exact Nat.mul_le_mul (by omega) h2
/-- the primes in them -/
def Ks (ks ns : List Nat) : Prop := ks.Nodup ∧ ∀ p, p ∈ ks ↔ Prime p ∧ 0 < val p ns
theorem vl_prd_primes {p : Nat} (hp : Prime p) : ∀ {ks : List Nat}, ks.Nodup → (∀ q ∈ ks, Prime q) → vl p (prd ks) = if p ∈ ks then 1 else 0
  | [], _, _ => by rw [if_neg (by simp)]; exact vl_one p
  | q :: ks, nd, h => by
    obtain ⟨n1, n2⟩ := List.nodup_cons.mp nd
    have hq := h q (List.mem_cons_self ..)
    have h' : ∀ r ∈ ks, Prime r := fun r hr => h r (List.mem_cons_of_mem _ hr)
    show vl p (q * prd ks) = _
    rw [vl_mul hp (by have := hq.1; omega) (prd_pos fun r hr => by have := (h' r hr).1; omega), vl_prd_primes hp n2 h']
    by_cases z : p = q
    · subst z
      rw [vl_self hp, if_neg n1, if_pos (List.mem_cons_self ..)]
    · rw [vl_prime_ne hp hq z]
      by_cases w : p ∈ ks
      · rw [if_pos w, if_pos (List.mem_cons_of_mem _ w)]
      · rw [if_neg w, if_neg fun m => (List.mem_cons.mp m).elim z w]
theorem two_prd : ∀ {ks : List Nat}, (∀ q ∈ ks, 2 ≤ q) → 2 ^ ks.length ≤ prd ks
  | [], _ => Nat.le_refl 1
  | q :: ks, h => by
    rw [List.length_cons, Nat.pow_succ, Nat.mul_comm]
    exact Nat.mul_le_mul (h q (List.mem_cons_self ..)) (two_prd fun r hr => h r (List.mem_cons_of_mem _ hr))
theorem Ks.len {ks ns : List Nat} (h : Ks ks ns) (hs : Sm ns) : ks.length ≤ 20 * ns.length := by
  have pr : ∀ q ∈ ks, Prime q := fun q hq => ((h.2 q).mp hq).1
  have hd : prd ks ∣ prd ns := dvd_of_vl (prd_pos fun q hq => by have := (pr q hq).1; omega) (prd_pos hs.one) fun p hp => by
    rw [vl_prd_primes hp h.1 pr, vl_prd hp hs.one]
    by_cases z : p ∈ ks
    · rw [if_pos z]; exact ((h.2 p).mp z).2
    · rw [if_neg z]; exact Nat.zero_le _
  have h1 := two_prd fun q hq => (pr q hq).1
  have h2 := Nat.le_of_dvd (prd_pos hs.one) hd
  have h3 := prd_bound hs
  refine Nat.le_of_not_lt fun z => ?_
  have : 2 ^ (20 * ns.length + 1) ≤ 2 ^ ks.length := Nat.pow_le_pow_right (by decide) z
  rw [Nat.pow_succ] at this
  have : 0 < 2 ^ (20 * ns.length) := Nat.pow_pos (by decide)
  omega
theorem Ks.le {ks ns : List Nat} (h : Ks ks ns) (hs : Sm ns) {p : Nat} (hp : p ∈ ks) : 2 ≤ p ∧ p ≤ 1000000 := by
  obtain ⟨pp, pv⟩ := (h.2 p).mp hp
  obtain ⟨n, hn, hv⟩ := val_pos_ex pv
  have := (vl_pos pp (hs n hn).1).mp hv
  have := Nat.le_of_dvd (hs n hn).1 this
  exact ⟨pp.1, Nat.le_trans this (hs n hn).2⟩
/-! ### the exponent, and what lacks -/
/-- g is the greatest exponent, where f tells how often each prime is there -/
def KExp (f : Nat → Nat) (g : Nat) : Prop := ((∀ p, Prime p → f p = 0) ∧ g = 2) ∨ ((∃ p, Prime p ∧ 0 < f p) ∧ (∀ p, Prime p → g ∣ f p) ∧ ∀ e, (∀ p, Prime p → e ∣ f p) → e ∣ g)
theorem KExp.uniq {f : Nat → Nat} {g g' : Nat} (h : KExp f g) (h' : KExp f g') : g = g' := by
  rcases h with ⟨a, rfl⟩ | ⟨⟨p, hp, hv⟩, b, c⟩
  · rcases h' with ⟨_, rfl⟩ | ⟨⟨p, hp, hv⟩, _⟩
    · rfl
    · have := a p hp; omega
  · rcases h' with ⟨a, _⟩ | ⟨_, b', c'⟩
    · have := a p hp; omega
    · exact Nat.dvd_antisymm (c' _ b) (c _ b')
/-- v is the least number with which it is a power by e -/
def KLack (f : Nat → Nat) (e v : Nat) : Prop := 1 ≤ v ∧ ∀ p, Prime p → vl p v = (e - f p % e) % e
theorem KLack.uniq {f : Nat → Nat} {e v v' : Nat} (h : KLack f e v) (h' : KLack f e v') : v = v' := eq_of_vl v v' h.1 h'.1 fun p hp => by rw [h.2 p hp, h'.2 p hp]
/-- the product over the keys -/
def lackP (f : Nat → Nat) (e : Nat) : List Nat → Nat
  | [] => 1
  | p :: ks => p ^ ((e - f p % e) % e) * lackP f e ks
theorem lackP_append (f : Nat → Nat) (e : Nat) (xs : List Nat) : ∀ ys, lackP f e (ys ++ xs) = lackP f e ys * lackP f e xs
  | [] => (Nat.one_mul _).symm
  | y :: ys => by
    show _ * lackP f e (ys ++ xs) = _ * lackP f e ys * lackP f e xs
    rw [lackP_append f e xs ys, Nat.mul_assoc]
theorem lackP_pos {f : Nat → Nat} {e : Nat} : ∀ {ks : List Nat}, (∀ q ∈ ks, 2 ≤ q) → 1 ≤ lackP f e ks
  | [], _ => Nat.le_refl 1
  | q :: ks, h => Nat.mul_pos (Nat.pow_pos (by have := h q (List.mem_cons_self ..); omega)) (lackP_pos fun r hr => h r (List.mem_cons_of_mem _ hr))
theorem lackP_vl {f : Nat → Nat} {e p : Nat} (hp : Prime p) : ∀ {ks : List Nat}, ks.Nodup → (∀ q ∈ ks, Prime q) → vl p (lackP f e ks) = if p ∈ ks then (e - f p % e) % e else 0
  | [], _, _ => by rw [if_neg (by simp)]; exact vl_one p
  | q :: ks, nd, h => by
    obtain ⟨n1, n2⟩ := List.nodup_cons.mp nd
    have hq := h q (List.mem_cons_self ..)
    have h' : ∀ r ∈ ks, Prime r := fun r hr => h r (List.mem_cons_of_mem _ hr)
    show vl p (q ^ _ * lackP f e ks) = _
    have q1 : 1 ≤ q := by have := hq.1; omega
    rw [vl_mul hp (Nat.pow_pos q1) (lackP_pos fun r hr => (h' r hr).1), lackP_vl hp n2 h', vl_pow hp q1]
    by_cases z : p = q
    · subst z
      rw [vl_self hp, if_neg n1, if_pos (List.mem_cons_self ..), Nat.mul_one, Nat.add_zero]
    · rw [vl_prime_ne hp hq z, Nat.mul_zero, Nat.zero_add]
      by_cases w : p ∈ ks
      · rw [if_pos w, if_pos (List.mem_cons_of_mem _ w)]
      · rw [if_neg w, if_neg fun m => (List.mem_cons.mp m).elim z w]
theorem lackP_is {f : Nat → Nat} {e : Nat} {ks : List Nat} (e1 : 1 ≤ e) (nd : ks.Nodup) (h : ∀ p, p ∈ ks ↔ Prime p ∧ 0 < f p) : KLack f e (lackP f e ks) := by
  refine ⟨lackP_pos fun q hq => ((h q).mp hq).1.1, fun p hp => ?_⟩
  rw [lackP_vl hp nd fun q hq => ((h q).mp hq).1]
  by_cases z : p ∈ ks
  · rw [if_pos z]
  · rw [if_neg z]
    have : f p = 0 := Nat.eq_zero_of_not_pos fun w => z ((h p).mpr ⟨hp, w⟩)
    rw [this, Nat.zero_mod, Nat.sub_zero, Nat.mod_self]
theorem lackP_bound {f : Nat → Nat} {e : Nat} (e2 : e ≤ 200) (e1 : 1 ≤ e) : ∀ {ks : List Nat}, (∀ q ∈ ks, q ≤ 1000000) → lackP f e ks < 2 ^ (4000 * ks.length + 1)
  | [], _ => Nat.one_lt_pow (by decide) (by decide)
  | q :: ks, h => by
    have ih := lackP_bound e2 e1 (f := f) (ks := ks) fun r hr => h r (List.mem_cons_of_mem _ hr)
    have lt := Nat.mod_lt (e - f q % e) e1
    have hq : q ^ ((e - f q % e) % e) ≤ 2 ^ (20 * ((e - f q % e) % e)) := by
      rw [Nat.pow_mul]
      exact Nat.pow_le_pow_left (by have := h q (List.mem_cons_self ..); omega) _
    have hq2 : q ^ ((e - f q % e) % e) ≤ 2 ^ 4000 := Nat.le_trans hq (Nat.pow_le_pow_right (by decide) (by omega))
    show q ^ _ * lackP f e ks < _
    rw [List.length_cons, show 4000 * (ks.length + 1) + 1 = 4000 + (4000 * ks.length + 1) by omega, Nat.pow_add]
    have p0 : 0 < 2 ^ 4000 := Nat.pow_pos (by decide)
    calc q ^ ((e - f q % e) % e) * lackP f e ks ≤ 2 ^ 4000 * lackP f e ks := Nat.mul_le_mul_right _ hq2
      _ < 2 ^ 4000 * 2 ^ (4000 * ks.length + 1) := Nat.mul_lt_mul_of_pos_left ih p0
/-- the rest of the negative -/
theorem neg_rest (t e : Nat) (e1 : 1 ≤ e) : (-(t : Int)) % (e : Int) = (((e - t % e) % e : Nat) : Int) := by
  have lt := Nat.mod_lt t e1
  have h1 : (-(t : Int)) % (e : Int) = ((e : Int) - ((t % e : Nat) : Int)) % (e : Int) := by
    have := Nat.mod_add_div t e
    have h2 : (-(t : Int)) = ((e : Int) - ((t % e : Nat) : Int)) + (e : Int) * (-((t / e : Nat) : Int) - 1) := by
      have h3 : (t : Int) = ((t % e : Nat) : Int) + (e : Int) * ((t / e : Nat) : Int) := by exact_mod_cast this.symm
      rw [Int.mul_sub, Int.mul_neg]
      omega
    rw [h2, Int.add_mul_emod_self_left]
  rw [h1]
  have : ((e : Int) - ((t % e : Nat) : Int)) = ((e - t % e : Nat) : Int) := by omega
  rw [this]
  exact_mod_cast rfl
end Pm
namespace Pm
/-! ### the primes of a number, one by one -/
/-- zs: the primes below D that were taken out of n, l what is left -/
structure Ps (n : Nat) (zs : List Nat) (l D : Nat) : Prop where
  cnt : ∀ p, Prime p → zs.count p + vl p l = vl p n
  pr : ∀ z ∈ zs, Prime z
  l1 : 1 ≤ l
  lo : ∀ p, Prime p → p < D → ¬ p ∣ l
theorem Ps.new {n : Nat} (n1 : 1 ≤ n) : Ps n [] n 2 := ⟨fun p _ => by simp, fun z h => by simp at h, n1, fun p hp lt => absurd hp.1 (by omega)⟩
theorem Ps.prime {n l D : Nat} {zs : List Nat} (h : Ps n zs l D) (D2 : 2 ≤ D) (hd : D ∣ l) : Prime D := by
  obtain ⟨q, hq, qd⟩ := prime_factor D D2
  have : D ≤ q := Nat.le_of_not_lt fun z => h.lo q hq z (Nat.dvd_trans qd hd)
  have := Nat.le_of_dvd (by omega) qd
  have e : q = D := by omega
  rw [← e]
  exact hq
theorem Ps.push {n c D : Nat} {zs : List Nat} (h : Ps n zs (D * c) D) (hD : Prime D) (c1 : 1 ≤ c) : Ps n (zs ++ [D]) c D := by
  have D1 : 1 ≤ D := by have := hD.1; omega
  refine ⟨fun p hp => ?_, fun z m => ?_, c1, fun p hp lt w => h.lo p hp lt (Nat.dvd_trans w (Nat.dvd_mul_left _ _))⟩
  · have := h.cnt p hp
    rw [vl_mul hp D1 c1] at this
    rw [List.count_append]
    by_cases z : p = D
    · subst z
      rw [vl_self hp] at this
      simp
      omega
    · rw [vl_prime_ne hp hD z] at this
      have e : List.count p [D] = 0 := by
        rw [List.count_eq_zero, List.mem_singleton]
        exact z
      omega
  · rcases List.mem_append.mp m with m | m
    · exact h.pr z m
    · rw [List.mem_singleton.mp m]; exact hD
theorem Ps.next {n l D : Nat} {zs : List Nat} (h : Ps n zs l D) (nd : ¬ D ∣ l) : Ps n zs l (D + 1) := ⟨h.cnt, h.pr, h.l1, fun p hp lt => by
  by_cases z : p = D
  · rw [z]; exact nd
  · exact h.lo p hp (by omega)⟩
/-- the rest is a prime -/
theorem Ps.last {n l D : Nat} {zs : List Nat} (h : Ps n zs l D) (l2 : 2 ≤ l) (lt : l < D * D) : Prime l := prime_of_trial l2 fun d d2 dd dl => by
  obtain ⟨q, hq, qd⟩ := prime_factor d d2
  have : D ≤ q := Nat.le_of_not_lt fun w => h.lo q hq w (Nat.dvd_trans qd dl)
  have := Nat.le_of_dvd (by omega) qd
  have : D * D ≤ d * d := Nat.mul_le_mul (by omega) (by omega)
  omega
theorem Ps.jump {n l D : Nat} {zs : List Nat} (h : Ps n zs l D) (hl : Prime l) : Ps n zs l l := ⟨h.cnt, h.pr, h.l1, fun p hp lt z => by
  rcases hl.2 p z with w | w
  · have := hp.1; omega
  · omega⟩
/-- all primes of n, each as often as it divides -/
def Pms (n : Nat) (zs : List Nat) : Prop := (∀ p, Prime p → zs.count p = vl p n) ∧ ∀ z ∈ zs, Prime z
theorem Ps.done {n D : Nat} {zs : List Nat} (h : Ps n zs 1 D) : Pms n zs := ⟨fun p hp => by have := h.cnt p hp; rw [vl_one] at this; omega, h.pr⟩
theorem Ps.len {n l D : Nat} {zs : List Nat} (h : Ps n zs l D) (n1 : 1 ≤ n) : prd zs * l = n := by
  have z1 : ∀ z ∈ zs, 1 ≤ z := fun z hz => by have := (h.pr z hz).1; omega
  refine eq_of_vl _ _ (Nat.mul_pos (prd_pos z1) h.l1) n1 fun p hp => ?_
  rw [vl_mul hp (prd_pos z1) h.l1, ← h.cnt p hp, vl_prd hp z1]
  congr 1
  have pr := h.pr
  clear h z1
  induction zs with
  | nil => rfl
  | cons z zs ih =>
    have hz := pr z (List.mem_cons_self ..)
    show vl p z + val p zs = _
    rw [ih fun y hy => pr y (List.mem_cons_of_mem _ hy), List.count_cons]
    by_cases w : z = p
    · subst w
      rw [vl_self hp]
      simp
      omega
    · rw [vl_prime_ne hp hz (fun e => w e.symm)]
      have : (z == p) = false := by simp [w]
      rw [this]
      simp
theorem Pms.len {n : Nat} {zs : List Nat} (h : Pms n zs) (n1 : 1 ≤ n) (nb : n ≤ 1000000) : zs.length ≤ 20 := by
  have z1 : ∀ z ∈ zs, 2 ≤ z := fun z hz => (h.2 z hz).1
  have h1 := two_prd z1
  have h2 : prd zs = n := by
    have := (show Ps n zs 1 2 from ⟨fun p hp => by rw [h.1 p hp, vl_one, Nat.add_zero], h.2, Nat.le_refl 1, fun p hp lt => absurd hp.1 (by omega)⟩).len n1
    omega
  refine Nat.le_of_not_lt fun z => ?_
  have : 2 ^ 21 ≤ 2 ^ zs.length := Nat.pow_le_pow_right (by decide) z
  omega
end Pm

namespace Pm
/-! ### what lacks, and the exponents of the product -/
theorem lack_rest {f e : Nat} (e1 : 1 ≤ e) : e ∣ f + (e - f % e) % e := by
  have lt := Nat.mod_lt f e1
  have h := Nat.mod_add_div f e
  by_cases z : f % e = 0
  · rw [z, Nat.sub_zero, Nat.mod_self, Nat.add_zero]
    exact Nat.dvd_of_mod_eq_zero z
  · rw [Nat.mod_eq_of_lt (by omega)]
    refine ⟨f / e + 1, ?_⟩
    rw [Nat.mul_add, Nat.mul_one]
    omega
theorem lack_least {f e k : Nat} (e1 : 1 ≤ e) (h : e ∣ f + k) : (e - f % e) % e ≤ k := by
  have lt := Nat.mod_lt f e1
  by_cases z : f % e = 0
  · rw [z, Nat.sub_zero, Nat.mod_self]; exact Nat.zero_le _
  · rw [Nat.mod_eq_of_lt (by omega)]
    have h1 : (f + k) % e = 0 := Nat.mod_eq_zero_of_dvd h
    refine Nat.le_of_not_lt fun w => ?_
    have h2 : (f + k) % e = (f % e + k) % e := by rw [Nat.mod_add_mod]
    rw [h2, Nat.mod_eq_of_lt (by omega)] at h1
    omega
theorem KLack.pow {P e v : Nat} (P1 : 1 ≤ P) (e1 : 1 ≤ e) {f : Nat → Nat} (hf : ∀ p, Prime p → f p = vl p P) (h : KLack f e v) : ∃ c, c ^ e = P * v := by
  obtain ⟨c, _, hc⟩ := pow_of_vl e1 (P * v) (Nat.mul_pos P1 h.1) fun p hp => by
    rw [vl_mul hp P1 h.1, h.2 p hp, ← hf p hp]
    exact lack_rest e1
  exact ⟨c, hc⟩
theorem KLack.least {P e v k c : Nat} (P1 : 1 ≤ P) (e1 : 1 ≤ e) {f : Nat → Nat} (hf : ∀ p, Prime p → f p = vl p P) (h : KLack f e v) (k1 : 1 ≤ k) (hc : c ^ e = P * k) : v ≤ k := by
  refine Nat.le_of_dvd k1 (dvd_of_vl h.1 k1 fun p hp => ?_)
  have h1 := vl_of_pow (Nat.mul_pos P1 k1) e1 hc p hp
  rw [vl_mul hp P1 k1, ← hf p hp] at h1
  rw [h.2 p hp]
  exact lack_least e1 h1
theorem KLack.one {f f' : Nat → Nat} {e v : Nat} (e1 : 1 ≤ e) (h : KLack f e v) (hf : ∀ p, Prime p → f' p = f p + vl p v) : KLack f' e 1 := by
  refine ⟨Nat.le_refl 1, fun p hp => ?_⟩
  rw [vl_one, hf p hp, h.2 p hp, Nat.mod_eq_zero_of_dvd (lack_rest e1), Nat.sub_zero, Nat.mod_self]
theorem KExp.mult {f f' : Nat → Nat} {e v g : Nat} (e1 : 1 ≤ e) (h : KLack f e v) (hf : ∀ p, Prime p → f' p = f p + vl p v) (hg : KExp f' g) (ex : ∃ p, Prime p ∧ 0 < f' p) : e ∣ g := by
  rcases hg with ⟨a, _⟩ | ⟨_, _, c⟩
  · obtain ⟨p, hp, z⟩ := ex
    have := a p hp
    omega
  · exact c e fun p hp => by rw [hf p hp, h.2 p hp]; exact lack_rest e1
theorem KExp.two {f f' : Nat → Nat} {g g' : Nat} (hf : ∀ p, Prime p → f' p = 2 * f p) (h : KExp f g) (h' : KExp f' g') : ((∀ p, Prime p → f p = 0) ∧ g = 2 ∧ g' = 2) ∨ ((∃ p, Prime p ∧ 0 < f p) ∧ g' = 2 * g) := by
  rcases h with ⟨a, rfl⟩ | ⟨⟨p, hp, hv⟩, b, c⟩
  · refine .inl ⟨a, rfl, ?_⟩
    rcases h' with ⟨_, rfl⟩ | ⟨⟨p, hp, hv⟩, _⟩
    · rfl
    · rw [hf p hp, a p hp] at hv
      omega
  · refine .inr ⟨⟨p, hp, hv⟩, KExp.uniq h' (.inr ⟨⟨p, hp, by rw [hf p hp]; omega⟩, fun q hq => ?_, fun e he => ?_⟩)⟩
    · rw [hf q hq]
      exact Nat.mul_dvd_mul_left 2 (b q hq)
    · have h2 : ∀ q, Prime q → Nat.lcm 2 e ∣ 2 * f q := fun q hq => Nat.lcm_dvd (Nat.dvd_mul_right 2 _) (by rw [← hf q hq]; exact he q hq)
      obtain ⟨k, hk⟩ := Nat.dvd_lcm_left 2 e
      have h3 : k ∣ g := c k fun q hq => by
        have := h2 q hq
        rw [hk] at this
        exact Nat.dvd_of_mul_dvd_mul_left (by decide) this
      refine Nat.dvd_trans (Nat.dvd_lcm_right 2 e) ?_
      rw [hk]
      exact Nat.mul_dvd_mul_left 2 h3
/-- the product is 1 where no prime is there -/
theorem prd_one {P : Nat} (P1 : 1 ≤ P) (h : ∀ p, Prime p → vl p P = 0) : P = 1 := eq_of_vl P 1 P1 (Nat.le_refl 1) fun p hp => by rw [h p hp, vl_one]
/-- the exponent is that of the greatest way -/
theorem KExp.way {P b g g' : Nat} {f : Nat → Nat} (hf : ∀ p, Prime p → f p = vl p P) (P2 : 2 ≤ P) (b2 : 2 ≤ b) (nb : NotPow b) (g1 : 1 ≤ g) (hb : b ^ g = P) (h : KExp f g') : g' = g := by
  rcases h with ⟨a, _⟩ | ⟨⟨p, hp, hv⟩, h1, h2⟩
  · have := prd_one (P := P) (by omega) fun p hp => by rw [← hf p hp]; exact a p hp
    omega
  · refine Nat.dvd_antisymm ?_ (h2 g fun q hq => by rw [hf q hq]; exact vl_of_pow (by omega) g1 hb q hq)
    have g'1 : 1 ≤ g' := by
      rcases Nat.eq_zero_or_pos g' with w | w
      · subst w
        have := h1 p hp
        rw [Nat.zero_dvd] at this
        omega
      · exact w
    obtain ⟨c, _, hc⟩ := pow_of_vl g'1 P (by omega) fun q hq => by rw [← hf q hq]; exact h1 q hq
    exact (ways_of_pow b2 nb g1 g'1 (hc.trans hb.symm)).1
end Pm

namespace Pw
open PySem PySem.Spec PyProof.Rows L2

/-! ### a def of the top that stands, and its promise -/
structure Def (P : Program) (w : World) (K : PySem.W.Frag) (mg : Str → Option Value) (base : Heap) (k : Nat) (x : Str) (ps : List Str) (sp : Sp) : Prop where
  ex : ∃ (f : Addr) (fd : FuncData), FnOk P w K mg base CX0 k f fd ps sp ∧ mg x = some (.ref f) ∧ PySem.W.keepIn K (.ref f) = true ∧ Binds K fd ps []
structure Pl (K : PySem.W.Frag) (mg : Str → Option Value) (x : Str) (st : Stmt) (ps : List Str) : Prop where
  ex : ∃ (f : Addr) (fd : FuncData), Fun K x x st f fd ∧ mg x = some (.ref f) ∧ Binds K fd ps []
section
variable {P : Program} {w : World} {K : PySem.W.Frag} {mg : Str → Option Value} {base : Heap}
theorem Pl.ok {x : Str} {st : Stmt} {N ps : List Str} {k : Nat} {sp : Sp} (F : Pl K mg x st ps) (S : FnScope N ps (defScope st)) (len : ∀ vs H Q E, sp vs H Q E → vs.length = ps.length)
    (hbody : ∀ (f : Addr) (cdv : Value) (A : Around) (outer : List Env) (s : Shared) (H : Hp) (vs : List V) (Q : VK) (E : XK), Room k (A.deeper (envOfC x (defScope st) s.heap.objs.size f cdv)) → sp vs H Q E →
      ∃ t, PSs (cxOf CX0 P w K mg base N x (defScope st) f cdv A outer s H E).nox (defBody st) t ∧ t { nx := fun _ H' => Q .non H', rt := Q } (start N vs) H) : Def P w K mg base (k + 1) x ps sp := by
  obtain ⟨f, fd, F, m, b⟩ := F.ex
  exact ⟨f, fd, F.ok S len (hbody f), m, F.kp, b⟩
end
section
variable {X : Cx} {k j : Nat} {x : Str} {ps : List Str} {sp : Sp}
theorem pe_def {e : Expr} {es : List Expr} {t : TA} {p pos : Pos} (D : Def X.prog X.w X.K X.mg X.base k x ps sp) (hr : Room k X.A) (hg : Gl X x) (ha : PA X (e :: es) t) (hdb : (x == ("__debug__" : Str)) = false := by decide)
    (he : starEach (e :: es) X.env = (false, eval e X.env) :: starEach es X.env := by rfl) (hpl : (backTo pos (starEach es X.env)).any (·.1) = false := by rfl) : PE X (.Call (.Name x p) (e :: es) [] pos) (tCall sp [] E0 t) := by
  obtain ⟨f, fd, F, m, kp, b⟩ := D.ex
  exact pe_call F hr hg m kp b .nil pass0 ha hdb he hpl
end
end Pw

namespace Pw
open PySem PySem.Spec PyProof.Rows L2
section
variable {X : Cx} {k j : Nat} {x : Str} {ps : List Str} {sp : Sp}
theorem pe_df {e : Expr} {es : List Expr} {t : TA} {p pos : Pos} (D : Def X.prog X.w X.K X.mg X.base k x ps sp) (hr : Room j X.A) (hg : Gl X x) (ha : PA X (e :: es) t) (hk : k ≤ j := by decide) (hdb : (x == ("__debug__" : Str)) = false := by decide)
    (he : starEach (e :: es) X.env = (false, eval e X.env) :: starEach es X.env := by rfl) (hpl : (backTo pos (starEach es X.env)).any (·.1) = false := by rfl) : PE X (.Call (.Name x p) (e :: es) [] pos) (tCall sp [] E0 t) :=
  pe_def D (hr.mono hk) hg ha hdb he hpl
end
/-! ### rules by name -/
def rOdd : R2 := fun x y H Q => ∃ n : Nat, x = .int (n : Int) ∧ y = .int 1 ∧ Q (.int ((n % 2 : Nat) : Int)) H
theorem op_oddN {X : Cx} : OpR X (binaryOp .BitAnd) rOdd := op_odd
def rLenS (K : PySem.W.Frag) : List V → Hp → VK → Prop := fun xs H Q => ∃ p ys, xs = [.ref p] ∧ (SqL K H p ys ∨ SqT K H p ys) ∧ Q (.int ys.length) H
theorem cr_lenS {X : Cx} : CallR X (.builtin "len") (rLenS X.K) := call_len_seq
def rLenT : List V → Hp → VK → Prop := fun xs H Q => ∃ z, xs = [.str z] ∧ z.length ≤ sizeLine ∧ Q (.int z.length) H
theorem cr_lenT {X : Cx} : CallR X (.builtin "len") rLenT := call_len_str
def rMin2 : List V → Hp → VK → Prop := fun xs H Q => ∃ i j : Int, xs = [.int i, .int j] ∧ Q (.int (if j < i then j else i)) H
def rMax2 : List V → Hp → VK → Prop := fun xs H Q => ∃ i j : Int, xs = [.int i, .int j] ∧ Q (.int (if j > i then j else i)) H
theorem cr_min2 {X : Cx} (hc : X.calm = true) : CallR X (.builtin "min") rMin2 := call_min2 hc
theorem cr_max2 {X : Cx} (hc : X.calm = true) : CallR X (.builtin "max") rMax2 := call_max2 hc
def tTruth (K : PySem.W.Frag) (ta : TE) : TT := fun σ H Q => ta σ H fun x H' => ∃ k, TruV K x H' k ∧ Q k H'
theorem pt_tru {X : Cx} {K : PySem.W.Frag} {a : Expr} {ta : TE} (ha : PE X a ta) (he : ∀ whole, isTrue a X.env whole = (do let v ← whole; standAt a.pos; holding [v] (truthy v))) (hK : X.K = K := by rfl) : PT X a (tTruth K ta) := by
  subst hK
  exact pt_truth ha he

/-! ### isqrt -/
def rIsqrt : List V → Hp → VK → Prop := fun vs H Q => ∃ n : Nat, vs = [.int (n : Int)] ∧ n < 2 ^ 13000 ∧ (∀ r : Nat, r * r ≤ n → n < (r + 1) * (r + 1) → Q (.int (r : Int)) H)
theorem cr_isqrt {X : Cx} : CallR X (.builtin "math.isqrt") rIsqrt := by
  intro pins s σ H vs us Q I r h
  obtain ⟨n, rfl, hn, q⟩ := h
  have hv : ∃ t, us = [Value.int (n : Int) t] := by
    cases r with
    | cons r1 r2 =>
      cases r2
      obtain ⟨t, rfl⟩ := r1
      exact ⟨t, rfl⟩
  obtain ⟨t, rfl⟩ := hv
  have hl : (n : Int).toNat.log2 < 13000 := by
    rw [Int.toNat_natCast]
    exact PySem.Flt.log2_lt_of (by decide) hn
  have sp := PySem.Float64.isqrt_spec n
  have sp' := q _ sp.1 sp.2
  have e : (Float64.isqrt ((n : Int)).toNat : Nat) = Float64.isqrt n := by rw [Int.toNat_natCast]
  refine call_function_meets PySem.W.MGF.kind_isqrt PySem.W.MGF.plain_isqrt PySem.W.MGF.entry_isqrt (PySem.W.MGF.args_isqrt _) (PySem.W.mg_run_isqrt (n : Int) t (by omega) (by omega) (by omega)).meets ?_
  refine ⟨.int ((Float64.isqrt (n : Int).toNat : Nat) : Int), H, I.tok _, ⟨_, rfl⟩, ?_⟩
  rw [e]
  exact sp'

/-- a new tuple, list; a new list whose size is known -/
def NewT (Q : VK) (xs : List V) (H : Hp) : Prop := xs.length ≤ sizeLine ∧ ∀ p, H p = none → Q (.ref p) (upd H p (.tup xs))
def NewL (Q : VK) (xs : List V) (H : Hp) : Prop := xs.length ≤ sizeLine ∧ ∀ p, H p = none → Q (.ref p) (upd H p (.lst xs))
def NewC (Q : VK) (xs : List V) (H : Hp) : Prop := ∀ p, H p = none → Q (.ref p) (upd H p (.lst xs))
theorem same_new {H : Hp} {p : Addr} {o : HO} (h : H p = none) : Same H (upd H p o) := fun b x e => by rw [upd_ne (ne_of_none e h)]; exact e
theorem newT {Q : VK} {xs : List V} {H : Hp} (hl : xs.length ≤ 1000) (q : ∀ p H', H p = none → H' p = some (.tup xs) → Same H H' → Q (.ref p) H') : NewT Q xs H := ⟨Nat.le_of_lt (small1000 hl), fun p hp => q p _ hp upd_same (same_new hp)⟩
theorem newL {Q : VK} {xs : List V} {H : Hp} (hl : xs.length ≤ 1000) (q : ∀ p H', H p = none → H' p = some (.lst xs) → Same H H' → Q (.ref p) H') : NewL Q xs H := ⟨Nat.le_of_lt (small1000 hl), fun p hp => q p _ hp upd_same (same_new hp)⟩
theorem newC {Q : VK} {xs : List V} {H : Hp} (q : ∀ p H', H p = none → H' p = some (.lst xs) → Same H H' → Q (.ref p) H') : NewC Q xs H := fun p hp => q p _ hp upd_same (same_new hp)
/-! ### the reading, step by step -/
section
variable {K : PySem.W.Frag} {σ : L2.St} {H : Hp} {Q : VK} {QT : Bool → Hp → Prop} {QA : List V → Hp → Prop} {D : Ends} {t u : TS} {tt tu : TT} {ta tb te tc : TE} {tr : TA} {i j : Int} {v x y : V} {n m : Nat}
theorem r_seq (h : t { D with nx := u D } σ H) : tSeq t u D σ H := h
theorem r_next (h : D.nx σ H) : tNext D σ H := h
theorem r_cont (h : D.ct σ H) : tCont D σ H := h
theorem r_break (h : D.bk σ H) : tBreak D σ H := h
theorem r_set (h : te σ H fun x H1 => D.nx (σ.set n (some x)) H1) : tAsg te (gName n) D σ H := h
theorem r_asg {g : TG} (h : te σ H fun x H1 => g x σ H1 D.nx) : tAsg te g D σ H := h
theorem r_ret (h : te σ H D.rt) : tRet te D σ H := h
theorem r_retN (h : D.rt .non H) : tRetN D σ H := h
theorem r_drop (h : te σ H fun _ H1 => D.nx σ H1) : tDrop te D σ H := h
theorem r_if (h : tt σ H fun b H1 => if b = true then t D σ H1 else u D σ H1) : tIfS tt t u D σ H := h
theorem r_var (h : σ[n]? = some (some v)) (q : Q v H) : tVar n σ H Q := ⟨v, h, q⟩
theorem r_c (q : Q v H) : tC v σ H Q := q
theorem r_op {r : R2} (h : ta σ H fun x H1 => tb σ H1 fun y H2 => r x y H2 Q) : tOp r ta tb σ H Q := h
theorem r_un {r : V → Hp → VK → Prop} (h : ta σ H fun x H1 => r x H1 Q) : tUn r ta σ H Q := h
theorem r_I0 {g : Int → Int → V} (q : Q (g i j) H) : rI0 g (.int i) (.int j) H Q := ⟨i, j, rfl, rfl, q⟩
theorem r_I {C : Int → Int → Prop} {g : Int → Int → V} (c : C i j) (q : Q (g i j) H) : rI C g (.int i) (.int j) H Q := ⟨i, j, rfl, rfl, c, q⟩
theorem r_U {g : Int → V} (q : Q (g i) H) : rU g (.int i) H Q := ⟨i, rfl, q⟩
theorem r_eqI (q : Q (.bl (decide (V.int i = V.int j))) H) : rEq (.int i) (.int j) H Q := ⟨rfl, q⟩
theorem r_neI (q : Q (.bl (!decide (V.int i = V.int j))) H) : rNe (.int i) (.int j) H Q := ⟨rfl, q⟩
theorem r_eqS (h : scal x y = true) (q : Q (.bl (decide (x = y))) H) : rEq x y H Q := ⟨h, q⟩
theorem r_neS (h : scal x y = true) (q : Q (.bl (!decide (x = y))) H) : rNe x y H Q := ⟨h, q⟩
theorem r_odd (h : i = (n : Int)) (q : Q (.int ((n % 2 : Nat) : Int)) H) : rOdd (.int i) (.int 1) H Q := ⟨n, by rw [h], rfl, q⟩
theorem r_test (h : te σ H fun x H' => ∃ k, x = .bl k ∧ QT k H') : tTest te σ H QT := h
theorem r_B (h : te σ H fun x H' => ∃ k, x = .bl k ∧ QT k H') : tB te σ H QT := h
theorem r_exI {R : Int → Prop} (h : R i) : ∃ z, V.int i = .int z ∧ R z := ⟨i, rfl, h⟩
theorem r_exB {R : Bool → Prop} {b : Bool} (h : R b) : ∃ z, V.bl b = .bl z ∧ R z := ⟨b, rfl, h⟩
theorem r_truth (h : te σ H fun x H' => ∃ k, TruV K x H' k ∧ QT k H') : tTruth K te σ H QT := h
theorem r_truI {R : Bool → Prop} (h : R (i != 0)) : ∃ k, TruV K (.int i) H k ∧ R k := ⟨_, rfl, h⟩
theorem r_truB {R : Bool → Prop} {b : Bool} (h : R b) : ∃ k, TruV K (.bl b) H k ∧ R k := ⟨_, rfl, h⟩
theorem r_and (h : tt σ H fun c H1 => if c = true then tu σ H1 QT else QT false H1) : tAnd tt tu σ H QT := h
theorem r_or (h : tt σ H fun c H1 => if c = true then QT true H1 else tu σ H1 QT) : tOr tt tu σ H QT := h
theorem r_not (h : tt σ H fun c H1 => QT (!c) H1) : tNot tt σ H QT := h
theorem r_andV (h : ta σ H fun x H1 => ∃ c, x = .bl c ∧ if c = true then tb σ H1 Q else Q (.bl false) H1) : tAndV ta tb σ H Q := h
theorem r_orV (h : ta σ H fun x H1 => ∃ c, x = .bl c ∧ if c = true then Q (.bl true) H1 else tb σ H1 Q) : tOrV ta tb σ H Q := h
theorem r_notV (h : ta σ H fun x H1 => ∃ c, x = .bl c ∧ Q (.bl (!c)) H1) : tNotV ta σ H Q := h
theorem r_ifE (h : tt σ H fun c H1 => if c = true then ta σ H1 Q else tb σ H1 Q) : tIf tt ta tb σ H Q := h
theorem r_nil (q : QA [] H) : tNil σ H QA := q
theorem r_cons (h : ta σ H fun x H1 => tr σ H1 fun xs H2 => QA (x :: xs) H2) : tCons ta tr σ H QA := h
theorem r_CB {r : List V → Hp → VK → Prop} (h : tr σ H fun vs H1 => r vs H1 Q) : tCB r tr σ H Q := h
theorem r_call {sp : Sp} {E : XK} (h : tr σ H fun vs H1 => sp vs H1 Q E) : tCall sp [] E tr σ H Q := by
  have e : (fun vs H1 => sp (vs ++ []) H1 Q E) = fun vs H1 => sp vs H1 Q E := by
    funext vs H1
    rw [List.append_nil]
  show tr σ H fun vs H1 => sp (vs ++ []) H1 Q E
  rw [e]
  exact h
theorem r_tup (h : tr σ H fun xs H1 => NewT Q xs H1) : tTup tr σ H Q := h
theorem r_lst (h : tr σ H fun xs H1 => NewL Q xs H1) : tLst tr σ H Q := h
theorem r_min2 (q : Q (.int (if j < i then j else i)) H) : rMin2 [.int i, .int j] H Q := ⟨i, j, rfl, q⟩
theorem r_max2 (q : Q (.int (if j > i then j else i)) H) : rMax2 [.int i, .int j] H Q := ⟨i, j, rfl, q⟩
theorem r_isqrt {a : Nat} (h : a < 2 ^ 13000) (q : ∀ r : Nat, r * r ≤ a → a < (r + 1) * (r + 1) → Q (.int (r : Int)) H) : rIsqrt [.int (a : Int)] H Q := ⟨a, rfl, h, q⟩
theorem r_bits (h : te σ H fun x H1 => ∃ z, x = .int z ∧ Q (.int (Builtin.Int.intBits z : Nat)) H1) : tBits te σ H Q := h
theorem r_ixL {p : Addr} {xs : List V} (h : SqL K H p xs) (ha : atI xs i = some v) (q : Q v H) : rIxL K (.ref p) (.int i) H Q := ⟨p, xs, i, v, rfl, rfl, h, ha, q⟩
theorem r_ixT {p : Addr} {xs : List V} (h : SqT K H p xs) (ha : atI xs i = some v) (q : Q v H) : rIxT K (.ref p) (.int i) H Q := ⟨p, xs, i, v, rfl, rfl, h, ha, q⟩
theorem r_lenL {p : Addr} {xs : List V} (h : SqL K H p xs) (q : Q (.int xs.length) H) : rLenS K [.ref p] H Q := ⟨p, xs, rfl, .inl h, q⟩
theorem r_lenT {p : Addr} {xs : List V} (h : SqT K H p xs) (q : Q (.int xs.length) H) : rLenS K [.ref p] H Q := ⟨p, xs, rfl, .inr h, q⟩
theorem r_lenS {z : Str} (h : z.length ≤ sizeLine) (q : Q (.int z.length) H) : rLenT [.str z] H Q := ⟨z, rfl, h, q⟩
theorem r_sl {r : V → Option Int → Option Int → Hp → VK → Prop} {tl th : TO} (h : te σ H fun x H1 => tl σ H1 fun l H2 => th σ H2 fun u H3 => r x l u H3 Q) : tSl r te tl th σ H Q := h
theorem r_noPart {QO : Option Int → Hp → Prop} (q : QO none H) : tNoPart σ H QO := q
theorem r_part {QO : Option Int → Hp → Prop} (h : te σ H fun x H1 => ∃ z, x = .int z ∧ QO (some z) H1) : tPart te σ H QO := h
theorem r_slL {p : Addr} {xs : List V} {lo hi : Option Int} (h : SqL K H p xs) (q : NewC Q (cutV xs lo hi) H) : rSlL K (.ref p) lo hi H Q := ⟨p, xs, rfl, h, q⟩
theorem r_gName {R : L2.St → Hp → Prop} (q : R (σ.set n (some v)) H) : gName n v σ H R := q
theorem r_gSub {R : L2.St → Hp → Prop} {s : TSet} (h : ta σ H fun o H1 => tb σ H1 fun i H2 => s o i v H2 fun H3 => R σ H3) : gSub ta tb s v σ H R := h
theorem r_setL {p : Addr} {xs : List V} {jx : Nat} {R : Hp → Prop} (h : H p = some (.lst xs)) (hj : ixN xs.length i = some jx) (q : R (upd H p (.lst (xs.set jx v)))) : rSetL (.ref p) (.int i) v H R := ⟨p, xs, i, jx, rfl, rfl, h, hj, q⟩
theorem r_ite {c A B : Prop} [Decidable c] (h1 : c → A) (h2 : ¬ c → B) : if decide c = true then A else B := by
  by_cases h : c
  · rw [if_pos (decide_eq_true h)]
    exact h1 h
  · rw [if_neg (by rw [decide_eq_false h]; decide)]
    exact h2 h
theorem iteNT {A B : Prop} (h : B) : if (!true) = true then A else B := h
theorem iteNF {A B : Prop} (h : A) : if (!false) = true then A else B := h
theorem r_iteI {A B : Prop} (h1 : i = j → A) (h2 : i ≠ j → B) : if decide (V.int i = V.int j) = true then A else B := r_ite (fun e => h1 (V.int.inj e)) (fun e => h2 fun z => e (by rw [z]))
theorem r_iteNI {A B : Prop} (h1 : i ≠ j → A) (h2 : i = j → B) : if (!decide (V.int i = V.int j)) = true then A else B := by
  by_cases h : i = j
  · rw [h, decide_eq_true rfl]
    exact h2 h
  · rw [decide_eq_false fun e => h (V.int.inj e)]
    exact h1 h
theorem r_iteN {c A B : Prop} [Decidable c] (h1 : ¬ c → A) (h2 : c → B) : if (!decide c) = true then A else B := by
  by_cases h : c
  · rw [decide_eq_true h]
    exact h2 h
  · rw [decide_eq_false h]
    exact h1 h
theorem r_bne {A B : Prop} (h1 : i ≠ 0 → A) (h2 : i = 0 → B) : if (i != 0) = true then A else B := by
  by_cases h : i = 0
  · subst h
    exact h2 rfl
  · rw [if_pos (by simp [h])]
    exact h1 h
theorem r_for {wi : TI} {g : TG} {tb : TS} (h : wi σ H fun J H1 => ∃ W : Nat → Nat → L2.St → Hp → Prop, (∃ m, W 0 m σ H1) ∧ ∀ i m σ H, W i m σ H →
  (J.stop i H ∧ D.nx σ H) ∨ (J.go i H ∧ ∃ N : L2.St → Hp → Prop, (∀ σ' H', N σ' H' → ∃ m', m' < m ∧ W (i + 1) m' σ' H') ∧ ∀ x H', J.yld i H x H' → g x σ H' fun σ2 H2 => tb { D with nx := N, ct := N, bk := D.nx } σ2 H2)) : tFor wi g tb D σ H := h
theorem r_rng1 {R : It → Hp → Prop} (h : tr σ H fun vs H1 => ∃ j : Int, vs = [.int j] ∧ -(2 ^ 62) ≤ j ∧ j < 2 ^ 62 ∧ R (Itr 0 j.toNat) H1) : iRng1 tr σ H R := h
theorem r_ex1 {R : Int → Prop} (h : R i) : ∃ z, [V.int i] = [.int z] ∧ R z := ⟨i, rfl, h⟩
theorem r_iList {R : It → Hp → Prop} (h : te σ H fun x H1 => ∃ a, x = .ref a ∧ (∃ xs, SqL K H1 a xs) ∧ R (Itl K a) H1) : iList K te σ H R := h
theorem r_iTup {R : It → Hp → Prop} (h : te σ H fun x H1 => ∃ a, x = .ref a ∧ (∃ xs, SqT K H1 a xs) ∧ R (Itt K a) H1) : iTup K te σ H R := h
theorem r_exL {p : Addr} {xs : List V} {R : Addr → Prop} (h : SqL K H p xs) (q : R p) : ∃ a, V.ref p = .ref a ∧ (∃ xs, SqL K H a xs) ∧ R a := ⟨p, rfl, ⟨xs, h⟩, q⟩
theorem r_exT {p : Addr} {xs : List V} {R : Addr → Prop} (h : SqT K H p xs) (q : R p) : ∃ a, V.ref p = .ref a ∧ (∃ xs, SqT K H a xs) ∧ R a := ⟨p, rfl, ⟨xs, h⟩, q⟩
theorem r_revR {tg : L2.St → Hp → (Int → Int → Hp → Prop) → Prop} {R : It → Hp → Prop} (h : tg σ H fun a b H1 => -(2 ^ 62) ≤ a ∧ a < 2 ^ 62 ∧ -(2 ^ 62) ≤ b ∧ b < 2 ^ 62 ∧ R (Itc (a + (((b - a).toNat : Nat) : Int) - 1) (-1) (b - a).toNat) H1) : iRevR tg σ H R := h
theorem r_tRg1 {R : Int → Int → Hp → Prop} (h : te σ H fun x H1 => ∃ z, x = .int z ∧ R 0 z H1) : tRg1 te σ H R := h
theorem r_BM {T : String} {r : V → List V → Hp → VK → Prop} (h : te σ H fun x H1 => tyV K T x H1 ∧ tr σ H1 fun xs H2 => r x xs H2 Q) : tBM K T r te tr σ H Q := h
theorem r_append {p : Addr} {xs : List V} (h : H p = some (.lst xs)) (hl : xs.length < sizeLine) (q : Q .non (upd H p (.lst (xs ++ [v])))) : rAppend (.ref p) [v] H Q := ⟨p, xs, v, rfl, rfl, h, hl, q⟩
/-- while, by a word and a measure; the test read along -/
theorem r_while (W : L2.St → Hp → Prop) (μ : L2.St → Hp → Nat) (h0 : W σ H)
    (hs : ∀ σ H, W σ H → ∀ (N : L2.St → Hp → Prop), (∀ σ' H', W σ' H' → μ σ' H' < μ σ H → N σ' H') → tt σ H fun b H1 => if b = true then t { D with nx := N, ct := N, bk := D.nx } σ H1 else D.nx σ H1)
    (mono : ∀ σ H R R', (∀ b H1, R b H1 → R' b H1) → tt σ H R → tt σ H R') : tWhile tt t D σ H := by
  refine while_by W μ h0 (fun σ H w => ?_) mono
  exact hs σ H w (fun σ' H' => W σ' H' ∧ μ σ' H' < μ σ H) fun σ' H' a b => ⟨a, b⟩
end
end Pw

namespace Pw
open PySem PySem.Spec PyProof.Rows L2
/-- the built-in names that the text leaves alone -/
structure Bl (mg : Str → Option Value) : Prop where
  len : mg "len" = none
  range : mg "range" = none
  sum : mg "sum" = none
  min : mg "min" = none
  max : mg "max" = none
  reversed : mg "reversed" = none
  isinstance : mg "isinstance" = none
  int : mg "int" = none
  bool : mg "bool" = none
  tuple : mg "tuple" = none
  list : mg "list" = none
  str : mg "str" = none
  sorted : mg "sorted" = none
  divmod : mg "divmod" = none
  enumerate : mg "enumerate" = none
  abs : mg "abs" = none
  zip : mg "zip" = none
  set : mg "set" = none
  dict : mg "dict" = none
/-! ### heaps -/
/-- all but the deck's row stays -/
def Keep (d : Addr) (H H' : Hp) : Prop := ∀ b o, b ≠ d → H b = some o → H' b = some o
theorem Keep.refl {d : Addr} {H : Hp} : Keep d H H := fun _ _ _ h => h
theorem Keep.trans {d : Addr} {H H1 H2 : Hp} (a : Keep d H H1) (b : Keep d H1 H2) : Keep d H H2 := fun c o n h => b c o n (a c o n h)
theorem Keep.upd {d : Addr} {H : Hp} {o : HO} : Keep d H (upd H d o) := fun b _ n h => by rw [upd_ne n]; exact h
theorem Keep.new {d p : Addr} {H : Hp} {o : HO} (hp : H p = none) : Keep d H (L2.upd H p o) := fun b _ _ h => by rw [upd_ne (ne_of_none h hp)]; exact h
theorem Keep.of {d : Addr} {H H' : Hp} (s : Same H H') : Keep d H H' := fun b o _ h => s b o h
/-- a deck: its cells, how many are begun, what is left of one, how many were mixed, the sum -/
structure DeckAt (H : Hp) (d c : Addr) (n : Nat) : Prop where
  ex : ∃ (cells : List Int) (b l m t : Int), H d = some (.lst [.ref c, .int b, .int l, .int m, .int t]) ∧ H c = some (.lst (cells.map V.int)) ∧ c ≠ d ∧
    0 ≤ b ∧ b ≤ cells.length ∧ cells.length ≤ 63 ∧ 0 ≤ l ∧ 0 ≤ m ∧ m ≤ n
theorem DeckAt.mono {H : Hp} {d c : Addr} {n n' : Nat} (D : DeckAt H d c n) (h : n ≤ n') : DeckAt H d c n' := by
  obtain ⟨cells, b, l, m, t, h1, h2, h3, h4, h5, h6, h7, h8, h9⟩ := D.ex
  exact ⟨cells, b, l, m, t, h1, h2, h3, h4, h5, h6, h7, h8, by omega⟩
theorem DeckAt.same {H H' : Hp} {d c : Addr} {n : Nat} (D : DeckAt H d c n) (s : Same H H') : DeckAt H' d c n := by
  obtain ⟨cells, b, l, m, t, h1, h2, h3⟩ := D.ex
  exact ⟨cells, b, l, m, t, s _ _ h1, s _ _ h2, h3⟩
theorem natAbs_lt {i : Int} {n : Nat} (h0 : 0 ≤ i) (h : i < (n : Int)) : i.natAbs < n := by omega
theorem mulx_of {i j : Int} (a b : Nat) (ha : i.natAbs < 2 ^ a) (hb : j.natAbs < 2 ^ b) (h : a + b ≤ 134217728) : CMulX i j := mulx_ok ha hb h
/-! ### promises of the law's own helpers -/
def spMix : Sp := fun vs H Q _ => ∃ cell k : Int, vs = [.int cell, .int k] ∧ 0 ≤ k ∧ k ≤ 2 ^ 60 ∧ ∀ r : Int, 0 ≤ r → Q (.int r) H
def spNext : Sp := fun vs H Q _ => ∃ (d c : Addr) (many : Int) (n : Nat), vs = [.ref d, .int many] ∧ 0 < many ∧ many.natAbs < 2 ^ 8000 ∧ DeckAt H d c n ∧ n ≤ 2 ^ 50 ∧
  ∀ (r : Int) (H' : Hp), 0 ≤ r → r < many → Keep d H H' → DeckAt H' d c (n + 1) → Q (.int r) H'
def spDeck (K : PySem.W.Frag) : Sp := fun vs H Q _ => ∃ (a : Addr) (ns : List Int), vs = [.ref a] ∧ SqL K H a (ns.map V.int) ∧ ∀ (d c : Addr) (H' : Hp), H d = none → Same H H' → DeckAt H' d c 0 → Q (.ref d) H'
def spGreat : Sp := fun vs H Q _ => ∃ (d c : Addr) (most : Int) (n : Nat), vs = [.ref d, .int most] ∧ 0 < most ∧ DeckAt H d c n ∧ n ≤ 2 ^ 49 ∧
  ∀ (r : Int) (H' : Hp), 0 ≤ r → r < most → Keep d H H' → DeckAt H' d c (n + 8) → Q (.int r) H'
def spAPower : Sp := fun vs H Q _ => ∃ (d c : Addr) (most : Int) (n : Nat), vs = [.ref d, .int most] ∧ 0 < most ∧ most < 2 ^ 200 ∧ DeckAt H d c n ∧ n ≤ 2 ^ 48 ∧
  ∀ (r : Int) (H' : Hp), 0 < r → r ≤ most → Keep d H H' → DeckAt H' d c (n + 16) → Q (.int r) H'
def spNumber : Sp := fun vs H Q _ => ∃ (d c : Addr) (most : Int) (n : Nat), vs = [.ref d, .int most] ∧ 0 < most ∧ most < 2 ^ 199 ∧ DeckAt H d c n ∧ n ≤ 2 ^ 47 ∧
  ∀ (r : Int) (H' : Hp), 0 ≤ r → r ≤ most → Keep d H H' → DeckAt H' d c (n + 50) → Q (.int r) H'
end Pw
namespace Pw
open PySem PySem.Spec PyProof.Rows L2
theorem at_st {t : TS} {D : Ends} {H : Hp} {σ' : L2.St} (σ : L2.St) (e : σ' = σ) (h : t D σ H) : t D σ' H := by subst e; exact h
end Pw
namespace Pw
open PySem PySem.Spec PyProof.Rows L2
theorem cxK2 {CX : CXT} {P : Program} {w : World} {K : PySem.W.Frag} {mg : Str → Option Value} {base : Heap} {N : List Str} {qual : Str} {scope : Scope} {f : Addr} {cd : Value} {A : Around} {outer : List Env} {s : Shared} {H : Hp} {E : XK} :
    (cxOf CX P w K mg base N qual scope f cd A outer s H E).K = K := rfl
theorem cxK {CX : CXT} {P : Program} {w : World} {K : PySem.W.Frag} {mg : Str → Option Value} {base : Heap} {N : List Str} {qual : Str} {scope : Scope} {f : Addr} {cd : Value} {A : Around} {outer : List Env} {s : Shared} {H : Hp} {E : XK} :
    (cxOf CX P w K mg base N qual scope f cd A outer s H E).nox.K = K := rfl
section
variable {K : PySem.W.Frag} {H : Hp} {Q : VK} {i : Int} {v : V}
theorem r_setLx {p : Addr} {xs : List V} (ys : List V) {jx : Nat} {R : Hp → Prop} (h : H p = some (.lst xs)) (hj : ixN xs.length i = some jx) (e : xs.set jx v = ys) (q : ∀ H', H' p = some (.lst ys) → Keep p H H' → R H') : rSetL (.ref p) (.int i) v H R :=
  r_setL h hj (q _ (by rw [e]; exact upd_same) Keep.upd)
theorem r_sum {a : Addr} {ns : List Int} (h : SqL K H a (ns.map V.int)) (q : Q (.int ns.sum) H) : rSum K [.ref a] H Q := ⟨a, ns, rfl, h, q⟩
theorem cut_to (ns : List Int) (k : Nat) : cutV (ns.map V.int) none (some (k : Int)) = (ns.take k).map V.int := by
  unfold cutV
  rw [HT.sIx_none, HT.sIx_nat]
  rw [List.length_map, List.drop_zero, Nat.sub_zero, ← List.map_take]
  congr 1
  rcases Nat.le_total k ns.length with h | h
  · rw [Nat.min_eq_left h]
  · rw [Nat.min_eq_right h, List.take_of_length_le (Nat.le_refl _), List.take_of_length_le h]
end
end Pw

namespace Pw
open PySem PySem.Spec PyProof.Rows L2
theorem r_pow2 {H : Hp} {Q : VK} (q : Q (.int 100) H) : rI CPow (fun i j => V.int (i ^ j.toNat)) (.int 10) (.int 2) H Q := r_I (show CPow 10 2 from ⟨by decide, by decide, by decide⟩) (by rw [show (10 : Int) ^ (2 : Int).toNat = 100 by decide]; exact q)
theorem r_pow3 {H : Hp} {Q : VK} (q : Q (.int 1000) H) : rI CPow (fun i j => V.int (i ^ j.toNat)) (.int 10) (.int 3) H Q := r_I (show CPow 10 3 from ⟨by decide, by decide, by decide⟩) (by rw [show (10 : Int) ^ (3 : Int).toNat = 1000 by decide]; exact q)
theorem r_pow4 {H : Hp} {Q : VK} (q : Q (.int 10000) H) : rI CPow (fun i j => V.int (i ^ j.toNat)) (.int 10) (.int 4) H Q := r_I (show CPow 10 4 from ⟨by decide, by decide, by decide⟩) (by rw [show (10 : Int) ^ (4 : Int).toNat = 10000 by decide]; exact q)
theorem r_pow5 {H : Hp} {Q : VK} (q : Q (.int 100000) H) : rI CPow (fun i j => V.int (i ^ j.toNat)) (.int 10) (.int 5) H Q := r_I (show CPow 10 5 from ⟨by decide, by decide, by decide⟩) (by rw [show (10 : Int) ^ (5 : Int).toNat = 100000 by decide]; exact q)
theorem r_pow6 {H : Hp} {Q : VK} (q : Q (.int 1000000) H) : rI CPow (fun i j => V.int (i ^ j.toNat)) (.int 10) (.int 6) H Q := r_I (show CPow 10 6 from ⟨by decide, by decide, by decide⟩) (by rw [show (10 : Int) ^ (6 : Int).toNat = 1000000 by decide]; exact q)
theorem r_pow8 {H : Hp} {Q : VK} (q : Q (.int 100000000) H) : rI CPow (fun i j => V.int (i ^ j.toNat)) (.int 10) (.int 8) H Q := r_I (show CPow 10 8 from ⟨by decide, by decide, by decide⟩) (by rw [show (10 : Int) ^ (8 : Int).toNat = 100000000 by decide]; exact q)
theorem r_pow9 {H : Hp} {Q : VK} (q : Q (.int 1000000000) H) : rI CPow (fun i j => V.int (i ^ j.toNat)) (.int 10) (.int 9) H Q := r_I (show CPow 10 9 from ⟨by decide, by decide, by decide⟩) (by rw [show (10 : Int) ^ (9 : Int).toNat = 1000000000 by decide]; exact q)
theorem r_pow10 {H : Hp} {Q : VK} (q : Q (.int 10000000000) H) : rI CPow (fun i j => V.int (i ^ j.toNat)) (.int 10) (.int 10) H Q := r_I (show CPow 10 10 from ⟨by decide, by decide, by decide⟩) (by rw [show (10 : Int) ^ (10 : Int).toNat = 10000000000 by decide]; exact q)
theorem r_pow11 {H : Hp} {Q : VK} (q : Q (.int 100000000000) H) : rI CPow (fun i j => V.int (i ^ j.toNat)) (.int 10) (.int 11) H Q := r_I (show CPow 10 11 from ⟨by decide, by decide, by decide⟩) (by rw [show (10 : Int) ^ (11 : Int).toNat = 100000000000 by decide]; exact q)
theorem r_pow12 {H : Hp} {Q : VK} (q : Q (.int 1000000000000) H) : rI CPow (fun i j => V.int (i ^ j.toNat)) (.int 10) (.int 12) H Q := r_I (show CPow 10 12 from ⟨by decide, by decide, by decide⟩) (by rw [show (10 : Int) ^ (12 : Int).toNat = 1000000000000 by decide]; exact q)
theorem r_pow18 {H : Hp} {Q : VK} (q : Q (.int 1000000000000000000) H) : rI CPow (fun i j => V.int (i ^ j.toNat)) (.int 10) (.int 18) H Q := r_I (show CPow 10 18 from ⟨by decide, by decide, by decide⟩) (by rw [show (10 : Int) ^ (18 : Int).toNat = 1000000000000000000 by decide]; exact q)
theorem r_pow20 {H : Hp} {Q : VK} (q : Q (.int 100000000000000000000) H) : rI CPow (fun i j => V.int (i ^ j.toNat)) (.int 10) (.int 20) H Q := r_I (show CPow 10 20 from ⟨by decide, by decide, by decide⟩) (by rw [show (10 : Int) ^ (20 : Int).toNat = 100000000000000000000 by decide]; exact q)
theorem r_pow30 {H : Hp} {Q : VK} (q : Q (.int 1000000000000000000000000000000) H) : rI CPow (fun i j => V.int (i ^ j.toNat)) (.int 10) (.int 30) H Q := r_I (show CPow 10 30 from ⟨by decide, by decide, by decide⟩) (by rw [show (10 : Int) ^ (30 : Int).toNat = 1000000000000000000000000000000 by decide]; exact q)
theorem r_pow35 {H : Hp} {Q : VK} (q : Q (.int 100000000000000000000000000000000000) H) : rI CPow (fun i j => V.int (i ^ j.toNat)) (.int 10) (.int 35) H Q := r_I (show CPow 10 35 from ⟨by decide, by decide, by decide⟩) (by rw [show (10 : Int) ^ (35 : Int).toNat = 100000000000000000000000000000000000 by decide]; exact q)
theorem r_pow40 {H : Hp} {Q : VK} (q : Q (.int 10000000000000000000000000000000000000000) H) : rI CPow (fun i j => V.int (i ^ j.toNat)) (.int 10) (.int 40) H Q := r_I (show CPow 10 40 from ⟨by decide, by decide, by decide⟩) (by rw [show (10 : Int) ^ (40 : Int).toNat = 10000000000000000000000000000000000000000 by decide]; exact q)
theorem r_pow41 {H : Hp} {Q : VK} (q : Q (.int 100000000000000000000000000000000000000000) H) : rI CPow (fun i j => V.int (i ^ j.toNat)) (.int 10) (.int 41) H Q := r_I (show CPow 10 41 from ⟨by decide, by decide, by decide⟩) (by rw [show (10 : Int) ^ (41 : Int).toNat = 100000000000000000000000000000000000000000 by decide]; exact q)
theorem r_pow42 {H : Hp} {Q : VK} (q : Q (.int 1000000000000000000000000000000000000000000) H) : rI CPow (fun i j => V.int (i ^ j.toNat)) (.int 10) (.int 42) H Q := r_I (show CPow 10 42 from ⟨by decide, by decide, by decide⟩) (by rw [show (10 : Int) ^ (42 : Int).toNat = 1000000000000000000000000000000000000000000 by decide]; exact q)
theorem r_pow50 {H : Hp} {Q : VK} (q : Q (.int 100000000000000000000000000000000000000000000000000) H) : rI CPow (fun i j => V.int (i ^ j.toNat)) (.int 10) (.int 50) H Q := r_I (show CPow 10 50 from ⟨by decide, by decide, by decide⟩) (by rw [show (10 : Int) ^ (50 : Int).toNat = 100000000000000000000000000000000000000000000000000 by decide]; exact q)
theorem r_pow60 {H : Hp} {Q : VK} (q : Q (.int 1000000000000000000000000000000000000000000000000000000000000) H) : rI CPow (fun i j => V.int (i ^ j.toNat)) (.int 10) (.int 60) H Q := r_I (show CPow 10 60 from ⟨by decide, by decide, by decide⟩) (by rw [show (10 : Int) ^ (60 : Int).toNat = 1000000000000000000000000000000000000000000000000000000000000 by decide]; exact q)
end Pw

namespace Pw
open PySem PySem.Spec PyProof.Rows L2
theorem DeckAt.ne {H : Hp} {d c p : Addr} {n : Nat} (D : DeckAt H d c n) (h : H p = none) : p ≠ d := by
  obtain ⟨cells, b, l, m, t, h1, _⟩ := D.ex
  exact (ne_of_none h1 h).symm
theorem DeckAt.nec {H : Hp} {d c p : Addr} {n : Nat} (D : DeckAt H d c n) (h : H p = none) : p ≠ c := by
  obtain ⟨cells, b, l, m, t, h1, h2, _⟩ := D.ex
  exact (ne_of_none h2 h).symm
theorem DeckAt.upd {H : Hp} {d c l : Addr} {n : Nat} {o : HO} (D : DeckAt H d c n) (hd : l ≠ d) (hc : l ≠ c) : DeckAt (L2.upd H l o) d c n := by
  obtain ⟨cells, b, l', m, t, h1, h2, h3⟩ := D.ex
  exact ⟨cells, b, l', m, t, by rw [upd_ne (Ne.symm hd)]; exact h1, by rw [upd_ne (Ne.symm hc)]; exact h2, h3⟩
theorem DeckAt.tup {H : Hp} {d c p : Addr} {n : Nat} {xs : List V} (D : DeckAt H d c n) (h : H p = some (.tup xs)) : p ≠ d := by
  obtain ⟨cells, b, l, m, t, h1, _⟩ := D.ex
  exact ne_of h h1 (by intro z; cases z)
theorem at_ints {ns : List Int} {i : Int} (h0 : 0 ≤ i) (h1 : i < ns.length) : ∃ z, z ∈ ns ∧ atI (ns.map V.int) i = some (.int z) := by
  obtain ⟨j, rfl⟩ := Int.eq_ofNat_of_zero_le h0
  have hj : j < ns.length := by omega
  exact ⟨ns[j], List.getElem_mem hj, atI_nat (by rw [List.getElem?_map, List.getElem?_eq_getElem hj]; rfl)⟩
end Pw

namespace Pw
open PySem PySem.Spec PyProof.Rows L2
theorem r_shl1 {H : Hp} {Q : VK} {j : Int} (h0 : 0 ≤ j) (h1 : j ≤ 100000000) (q : ∀ k : Nat, j = (k : Int) → Q (.int (2 ^ k)) H) : rI CShl (fun i j => V.int (i * 2 ^ j.toNat)) (.int 1) (.int j) H Q := by
  obtain ⟨k, rfl⟩ := Int.eq_ofNat_of_zero_le h0
  refine r_I (shl_ok (n := 1) (by decide) (by omega)) ?_
  have e : (1 : Int) * 2 ^ ((k : Int)).toNat = 2 ^ k := by rw [Int.one_mul, Int.toNat_natCast]
  rw [e]
  exact q k rfl
theorem emod_le {a b : Int} (ha : 0 ≤ a) (hb : 0 ≤ b) : a % b ≤ a := by
  obtain ⟨n, rfl⟩ := Int.eq_ofNat_of_zero_le ha
  obtain ⟨m, rfl⟩ := Int.eq_ofNat_of_zero_le hb
  exact_mod_cast Nat.mod_le n m
theorem pow2_pos (k : Nat) : (0 : Int) < 2 ^ k := Int.pow_pos (by decide)
theorem mul_pos1 {a b : Int} (ha : 0 < a) (hb : 0 < b) : 0 < a * b := Int.mul_pos ha hb
end Pw

namespace Pw
open PySem PySem.Spec PyProof.Rows L2
section
variable {K : PySem.W.Frag} {H : Hp} {Q : VK} {i : Int} {x y v : V}
theorem kB_ii : kitB "int" "int" = some true := by decide +kernel
theorem kB_ib : kitB "int" "bool" = some false := by decide +kernel
theorem kB_bb : kitB "bool" "bool" = some true := by decide +kernel
theorem kB_bi : kitB "bool" "int" = some true := by decide +kernel
theorem kB_tt : kitB "tuple" "tuple" = some true := by decide +kernel
theorem kB_tb : kitB "tuple" "bool" = some false := by decide +kernel
theorem kB_ti : kitB "tuple" "int" = some false := by decide +kernel
theorem kB_ss : kitB "str" "str" = some true := by decide +kernel
theorem kB_nt : kitB "NoneType" "tuple" = some false := by decide +kernel
theorem kB_it : kitB "int" "tuple" = some false := by decide +kernel
theorem kB_ll : kitB "list" "list" = some true := by decide +kernel
theorem r_isi {T n : String} {b : Bool} (ty : TyX K H x (.type T)) (h : kitB T n = some b) (q : Q (.bl b) H) : rIsi K [x, .ty n] H Q := ⟨x, .ty n, .type T, .type n, b, rfl, .ty n, ty, kit_ty h, q⟩
theorem r_isiII (q : Q (.bl true) H) : rIsi K [.int i, .ty "int"] H Q := r_isi (.base (.int i)) kB_ii q
theorem r_isiIB (q : Q (.bl false) H) : rIsi K [.int i, .ty "bool"] H Q := r_isi (.base (.int i)) kB_ib q
theorem r_isiIT (q : Q (.bl false) H) : rIsi K [.int i, .ty "tuple"] H Q := r_isi (.base (.int i)) kB_it q
theorem r_isiBB {b : Bool} (q : Q (.bl true) H) : rIsi K [.bl b, .ty "bool"] H Q := r_isi (.base (.bl b)) kB_bb q
theorem r_isiSS {z : Str} (q : Q (.bl true) H) : rIsi K [.str z, .ty "str"] H Q := r_isi (.base (.str z)) kB_ss q
theorem r_isiTT {p : Addr} {xs : List V} (h : H p = some (.tup xs)) (q : Q (.bl true) H) : rIsi K [.ref p, .ty "tuple"] H Q := r_isi (.base (.tup h)) kB_tt q
theorem r_isiTB {p : Addr} {xs : List V} (h : H p = some (.tup xs)) (q : Q (.bl false) H) : rIsi K [.ref p, .ty "bool"] H Q := r_isi (.base (.tup h)) kB_tb q
theorem r_isiTI {p : Addr} {xs : List V} (h : H p = some (.tup xs)) (q : Q (.bl false) H) : rIsi K [.ref p, .ty "int"] H Q := r_isi (.base (.tup h)) kB_ti q

/-! ### data -/
theorem dp_ints : ∀ ns : List Int, DpAll K H (ns.map V.int) (ns.map PyData.int)
  | [] => .nil
  | n :: ns => .cons (.int n) (dp_ints ns)
theorem lay_ints : ∀ ns : List Int, PyData.canLayAll0 (ns.map PyData.int) = true
  | [] => by simp only [List.map_nil, PyData.canLayAll0]
  | n :: ns => by simp only [List.map_cons, PyData.canLayAll0, PyData.canLay0, lay_ints ns, Bool.and_self]
theorem depth_ints : ∀ ns : List Int, PyData.depthAll (ns.map PyData.int) = 0
  | [] => by simp only [List.map_nil, PyData.depthAll]
  | n :: ns => by simp only [List.map_cons, PyData.depthAll, PyData.depth, depth_ints ns, Nat.max_self]
theorem shaped_tup (ns : List Int) : SeqAt.shaped (.tuple (ns.map PyData.int)) = true := by
  unfold SeqAt.shaped
  simp only [PyData.canLay0, PyData.depth, lay_ints, depth_ints, Bool.true_and, decide_eq_true_eq]
  decide
theorem shaped_lst (ns : List Int) : SeqAt.shaped (.list (ns.map PyData.int)) = true := by
  unfold SeqAt.shaped
  simp only [PyData.canLay0, PyData.depth, lay_ints, depth_ints, Bool.true_and, decide_eq_true_eq]
  decide
theorem eqv_ints : ∀ ns ms : List Int, PyData.eqvAll (ns.map PyData.int) (ms.map PyData.int) = decide (ns = ms)
  | [], [] => by simp [PyData.eqvAll]
  | [], _ :: _ => by simp [PyData.eqvAll]
  | _ :: _, [] => by simp [PyData.eqvAll]
  | n :: ns, m :: ms => by
    simp only [List.map_cons, PyData.eqvAll, PyData.eqv, eqv_ints ns ms]
    by_cases h : n = m
    · by_cases h2 : ns = ms <;> simp [h, h2]
    · simp [h]
theorem r_eqDT {p q : Addr} {ns ms : List Int} (hp : SqT K H p (ns.map V.int)) (hq : SqT K H q (ms.map V.int)) (k : Q (.bl (decide (ns = ms))) H) : rEqD K (.ref p) (.ref q) H Q :=
  ⟨.tuple (ns.map PyData.int), .tuple (ms.map PyData.int), .tup hp (dp_ints ns), .tup hq (dp_ints ms), shaped_tup ns, shaped_tup ms, by rw [show PyData.eqv (.tuple (ns.map PyData.int)) (.tuple (ms.map PyData.int)) = decide (ns = ms) from by simp only [PyData.eqv, eqv_ints]]; exact k⟩
theorem r_neDT {p q : Addr} {ns ms : List Int} (hp : SqT K H p (ns.map V.int)) (hq : SqT K H q (ms.map V.int)) (k : Q (.bl (!decide (ns = ms))) H) : rNeD K (.ref p) (.ref q) H Q :=
  ⟨.tuple (ns.map PyData.int), .tuple (ms.map PyData.int), .tup hp (dp_ints ns), .tup hq (dp_ints ms), shaped_tup ns, shaped_tup ms, by rw [show PyData.eqv (.tuple (ns.map PyData.int)) (.tuple (ms.map PyData.int)) = decide (ns = ms) from by simp only [PyData.eqv, eqv_ints]]; exact k⟩
theorem r_eqDL {p q : Addr} {ns ms : List Int} (hp : SqL K H p (ns.map V.int)) (hq : SqL K H q (ms.map V.int)) (k : Q (.bl (decide (ns = ms))) H) : rEqD K (.ref p) (.ref q) H Q :=
  ⟨.list (ns.map PyData.int), .list (ms.map PyData.int), .lst hp (dp_ints ns), .lst hq (dp_ints ms), shaped_lst ns, shaped_lst ms, by rw [show PyData.eqv (.list (ns.map PyData.int)) (.list (ms.map PyData.int)) = decide (ns = ms) from by simp only [PyData.eqv, eqv_ints]]; exact k⟩
theorem r_neDL {p q : Addr} {ns ms : List Int} (hp : SqL K H p (ns.map V.int)) (hq : SqL K H q (ms.map V.int)) (k : Q (.bl (!decide (ns = ms))) H) : rNeD K (.ref p) (.ref q) H Q :=
  ⟨.list (ns.map PyData.int), .list (ms.map PyData.int), .lst hp (dp_ints ns), .lst hq (dp_ints ms), shaped_lst ns, shaped_lst ms, by rw [show PyData.eqv (.list (ns.map PyData.int)) (.list (ms.map PyData.int)) = decide (ns = ms) from by simp only [PyData.eqv, eqv_ints]]; exact k⟩
end
/-! ### comprehensions -/
section
variable {K : PySem.W.Frag} {H : Hp} {Q : VK} {σ : L2.St} {te tl : TE} {tt : TT} {g : TG} {vs : List Nat}
theorem r_lc {wi : TI} (h : wi σ H fun J H1 => ∀ D, H1 D = none → ∃ W : Nat → Nat → Hp → Prop, (∃ m, W 0 m (upd H1 D (.lst []))) ∧ ∀ i m H, W i m H →
  (J.stop i H ∧ Q (.ref D) H) ∨ (J.go i H ∧ ∃ Nx : Hp → Prop, (∀ H', Nx H' → ∃ m', m' < m ∧ W (i + 1) m' H') ∧ ∀ x H', J.yld i H x H' → g x (wipe σ vs) H' fun σ2 H2 => wipe σ2 vs = wipe σ vs ∧ tt σ2 H2 fun b H3 =>
    if b = true then te σ2 H3 fun y H4 => ∃ acc, H4 D = some (.lst acc) ∧ acc.length < sizeLine ∧ Nx (upd H4 D (.lst (acc ++ [y]))) else Nx H3)) : tLc wi g tt te vs σ H Q := h
/-- over a tuple, a list: nothing kept, nothing changed -/
theorem lc_none {p D : Addr} {xs : List V} {j : Nat} {Qd : Hp → Prop} (nD : H D = none) (hp : H p = some (.tup xs)) (hw : ∀ x, wipe ((wipe σ vs).set j (some x)) vs = wipe σ vs) (hs : ∀ x H' (F : Bool → Hp → Prop), x ∈ xs → Same H H' → F false H' → tt ((wipe σ vs).set j (some x)) H' F)
    (q : ∀ H', H' D = some (.lst []) → Same H H' → Qd H') : ∃ W : Nat → Nat → Hp → Prop, (∃ m, W 0 m (upd H D (.lst []))) ∧ ∀ i m H, W i m H →
  ((Itt K p).stop i H ∧ Qd H) ∨ ((Itt K p).go i H ∧ ∃ Nx : Hp → Prop, (∀ H', Nx H' → ∃ m', m' < m ∧ W (i + 1) m' H') ∧ ∀ x H', (Itt K p).yld i H x H' → gName j x (wipe σ vs) H' fun σ2 H2 => wipe σ2 vs = wipe σ vs ∧ tt σ2 H2 fun b H3 =>
    if b = true then te σ2 H3 fun y H4 => ∃ acc, H4 D = some (.lst acc) ∧ acc.length < sizeLine ∧ Nx (upd H4 D (.lst (acc ++ [y]))) else Nx H3) :=
  lc_tup (xs := xs) (fun _ H' => Same H H' ∧ H' D = some (.lst [])) ⟨same_new nD, upd_same⟩ (fun i H' _ ⟨s, _⟩ => SqT.of (s _ _ hp)) (fun i x H' hx ⟨s, e⟩ => ⟨hw x, hs x H' _ (List.mem_of_getElem? hx) s (iteF ⟨s, e⟩)⟩) (fun H' ⟨s, e⟩ => q H' e s)
end
def spAre (K : PySem.W.Frag) : Sp := fun vs H Q _ => ∃ (p q : Addr) (ns : List Int), vs = [.ref p, .ref q] ∧ H p = some (.tup (ns.map V.int)) ∧ H q = some (.tup (ns.map V.int)) ∧ ∀ H', Same H H' → Q (.bl true) H'
def spTakenL : Sp := fun vs H Q _ => ∃ (b e a : Nat), vs = [.int (b : Int), .int (e : Int)] ∧ b < 2 ^ a ∧ a * e ≤ 1000000 ∧ e < 2 ^ 60 ∧ Q (.int ((b ^ e : Nat) : Int)) H
end Pw
namespace Pw
open PySem PySem.Spec PyProof.Rows L2
/-- a list of pairs of ints -/
structure Rows (H : Hp) (l : Addr) (ps : List Addr) (R : Int → Int → Prop) : Prop where
  lst : H l = some (.lst (ps.map V.ref))
  row : ∀ p ∈ ps, ∃ a b : Int, H p = some (.tup [.int a, .int b]) ∧ R a b
theorem Rows.same {H H' : Hp} {l : Addr} {ps : List Addr} {R : Int → Int → Prop} (r : Rows H l ps R) (s : Same H H') : Rows H' l ps R :=
  ⟨s _ _ r.lst, fun p hp => let ⟨a, b, h, q⟩ := r.row p hp; ⟨a, b, s _ _ h, q⟩⟩
theorem Rows.keep {H H' : Hp} {l d c : Addr} {n : Nat} {ps : List Addr} {R : Int → Int → Prop} (r : Rows H l ps R) (D : DeckAt H d c n) (hl : l ≠ d) (k : Keep d H H') : Rows H' l ps R :=
  ⟨k _ _ hl r.lst, fun p hp => let ⟨a, b, h, q⟩ := r.row p hp; ⟨a, b, k _ _ (D.tup h) h, q⟩⟩
theorem Rows.push {H H' : Hp} {l p : Addr} {ps : List Addr} {R : Int → Int → Prop} {a b : Int} (r : Rows H l ps R) (hp : H p = some (.tup [.int a, .int b])) (hr : R a b) (e : H' = upd H l (.lst (ps.map V.ref ++ [.ref p]))) : Rows H' l (ps ++ [p]) R := by
  subst e
  refine ⟨by rw [upd_same, List.map_append]; rfl, fun q hq => ?_⟩
  rcases List.mem_append.mp hq with h | h
  · obtain ⟨a', b', h1, h2⟩ := r.row q h
    exact ⟨a', b', by rw [upd_ne (ne_of h1 r.lst (by intro z; cases z))]; exact h1, h2⟩
  · have : q = p := by simpa using h
    subst this
    exact ⟨a, b, by rw [upd_ne (ne_of hp r.lst (by intro z; cases z))]; exact hp, hr⟩
theorem keep_upd {d l : Addr} {H : Hp} {o : HO} : Keep l H (upd H l o) := Keep.upd
theorem r_cat {H : Hp} {Q : VK} {l b : Addr} {xs zs : List V} (h1 : H l = some (.lst xs)) (h2 : H b = some (.lst zs)) (hl : xs.length + zs.length ≤ 1000) (q : NewC Q (xs ++ zs) H) : rCat (.ref l) (.ref b) H Q :=
  ⟨l, b, xs, zs, rfl, rfl, h1, h2, Nat.le_of_lt (small1000 hl), q⟩
theorem cut_toV (xs : List V) (k : Nat) : cutV xs none (some (k : Int)) = xs.take k := by
  unfold cutV
  rw [HT.sIx_none, HT.sIx_nat, List.drop_zero, Nat.sub_zero]
  rcases Nat.le_total k xs.length with h | h
  · rw [Nat.min_eq_left h]
  · rw [Nat.min_eq_right h, List.take_of_length_le (Nat.le_refl _), List.take_of_length_le h]
theorem r_gTup2 {K : PySem.W.Frag} {p : Addr} {a b : V} {i j : Nat} {σ : L2.St} {H : Hp} {R : L2.St → Hp → Prop} (h : H p = some (.tup [a, b])) (q : R ((σ.set i (some a)).set j (some b)) H) : gTup K 2 (gCons (gName i) (gCons (gName j) gNil)) (.ref p) σ H R :=
  ⟨p, [a, b], rfl, SqT.of h, rfl, a, [b], rfl, b, [], rfl, rfl, q⟩
end Pw
namespace Pw
open PySem PySem.Spec PyProof.Rows L2
theorem pl_mk {K : PySem.W.Frag} {h : Heap} {mg : Str → Option Value} (X : K.In h) (G : h.Ns mainGlobals mg) {x : Str} {st : Stmt} {ps : List Str} {f : Addr} {oc : Value} {od an : Option Addr} {sl : Array (Option Value)} {kV doc pm cdv ct : Value}
    (a : PySem.W.nsIn K mainGlobals x = some (some (.ref f))) (l : K.lookup f = some ⟨oc, od, .func (PySem.W.fnOf x x (defArgs st) (defBody st) (defScope st) .none kV doc pm an cdv ct), sl⟩)
    (c : PySem.W.codeIn K cdv x = true) (k : PySem.W.keepIn K (.ref f) = true)
    (hb : ∀ (kV doc pm : Value) (an : Option Addr) (cdv ct : Value) (us : List Value), us.length = ps.length → bindArgs (PySem.W.fnOf x x (defArgs st) (defBody st) (defScope st) .none kV doc pm an cdv ct) ⟨us, []⟩ = pure (ps.zip us)) : Pl K mg x st ps :=
  ⟨f, _, fun_mk l c k, PySem.W.mg_of X G a, (fun_mk l c k).binds hb⟩
end Pw

/-! Texts: a text is S of its signs. -/
namespace Pw
open PySem PySem.Spec PyProof.Rows L2 SX
def rCatS : R2 := fun x y H Q => ∃ i j : Str, x = .str i ∧ y = .str j ∧ i.length + j.length ≤ sizeLine ∧ Q (.str (i ++ j)) H
theorem op_catS {X : Cx} : OpR X (binaryOp .Add) rCatS := op_add_str
def rRepS : R2 := fun x y H Q => ∃ (c : Nat) (n : Int), x = .str (S [c]) ∧ y = .int n ∧ n ≤ 100000 ∧ -100000 ≤ n ∧ Q (.str (S (List.replicate n.toNat c))) H
theorem fold_rep (c : Nat) : ∀ (n : Nat) (a : Array Nat), ((List.replicate n #[c]).foldl (· ++ ·) a) = a ++ (List.replicate n c).toArray
  | 0, a => by simp
  | n + 1, a => by
    rw [List.replicate_succ, List.foldl_cons, fold_rep c n, List.replicate_succ]
    refine Array.toList_inj.mp ?_
    simp
theorem mul_rep (c : Nat) (n : Int) : Txt.mul (S [c]) n = S (List.replicate n.toNat c) := by
  unfold Txt.mul
  by_cases h : n < 1
  · rw [if_pos h]
    have : n.toNat = 0 := by omega
    rw [this]
    rfl
  · rw [if_neg h]
    by_cases h1 : n = 1
    · subst h1
      rfl
    · rw [if_neg (by simp [S, Str.length]; exact h1)]
      show (⟨(List.replicate n.toNat #[c]).foldl (· ++ ·) #[]⟩ : Str) = _
      rw [fold_rep]
      simp [S]
theorem op_repS {X : Cx} : OpR X (binaryOp .Mult) rRepS := by
  intro pins s σ H x y v u Q I rx ry h
  obtain ⟨c, n, rfl, rfl, h1, h2, q⟩ := h
  obtain ⟨t, rfl⟩ := rx
  obtain ⟨t2, rfl⟩ := ry
  refine PySem.SB.mul ⟨by simp; omega, fun g1 g2 => ?_, fun g1 g2 => ?_⟩ fun t' k => ⟨.str _, H, I.tok _, ⟨_, rfl⟩, by rw [mul_rep]; exact q⟩
  · have e : (S [c]).length = 1 := S_len [c]
    rw [e]
    have : (1 : Int) ≤ (2 ^ 63 - 1) / n := by
      refine (Int.le_ediv_iff_mul_le (by omega)).mpr ?_
      omega
    show ¬ ((1 : Nat) : Int) > _
    omega
  · have e : (S [c]).length = 1 := S_len [c]
    rw [e]
    have h3 : n.toNat ≤ 100000 := by omega
    have hz : (100000 : Nat) ≤ sizeLine := by decide
    unfold Builtin.Str.tooLong
    simp
    omega
def rJoin (K : PySem.W.Frag) : V → List V → Hp → VK → Prop := fun x xs H Q => ∃ a p, ∃ ys : List Str, x = .str a ∧ xs = [.ref p] ∧ (SqL K H p (ys.map V.str) ∨ SqT K H p (ys.map V.str)) ∧ (ys.map (·.length)).sum + ys.length * a.length ≤ 16777216 ∧ Q (.str (Txt.join a ys)) H
theorem mt_joinN {X : Cx} : MtR X "str.join" (rJoin X.K) := mt_join
def rZfill : V → List V → Hp → VK → Prop := fun x xs H Q => ∃ (a : Str) (i : Int), x = .str a ∧ xs = [.int i] ∧ PadOk i = true ∧ Q (.str (Txt.zfill a i)) H
theorem mt_zfillN {X : Cx} : MtR X "str.zfill" rZfill := mt_zfill
def rStrI : List V → Hp → VK → Prop := fun xs H Q => ∃ i : Int, xs = [.int i] ∧ i.natAbs.log2 < 1920 ∧ Q (.str (toString i : String)) H
theorem cr_strI {X : Cx} : CallR X (.type "str") rStrI := call_str_int
def rIntS : List V → Hp → VK → Prop := fun xs H Q => ∃ (a : Str) (n : Int), xs = [.str a] ∧ PySem.intText? a = some n ∧ a.length ≤ 640 ∧ Q (.int n) H
theorem cr_intS {X : Cx} : CallR X (.type "int") rIntS := call_int_str
def rDivmod : List V → Hp → VK → Prop := fun xs H Q => ∃ i j : Int, xs = [.int i, .int j] ∧ CDivP i j ∧ ∀ p, H p = none → Q (.ref p) (upd H p (.tup [.int (i / j), .int (i % j)]))
theorem cr_divmod {X : Cx} : CallR X (.builtin "divmod") rDivmod := call_divmodW
def rInSign : R2 := fun x y H Q => ∃ (c : Nat) (z : Str), x = .str ⟨#[c]⟩ ∧ y = .str z ∧ Q (.bl (decide (c ∈ z.cps.toList))) H
theorem op_inSign {X : Cx} : OpR X (compareOp .In) rInSign := op_in_sign
/-! ### the reading -/
section
variable {K : PySem.W.Frag} {σ : L2.St} {H : Hp} {Q : VK} {te ta : TE} {a b : List Nat} {i : Int} {c : Nat}
theorem r_catS (h : a.length + b.length ≤ 100000) (q : Q (.str (S (a ++ b))) H) : rCatS (.str (S a)) (.str (S b)) H Q :=
  ⟨S a, S b, rfl, rfl, by rw [S_len, S_len]; exact Nat.le_trans h (by decide), by rw [S_cat]; exact q⟩
theorem r_repS {n : Int} (h1 : n ≤ 100000) (h2 : -100000 ≤ n) (q : Q (.str (S (List.replicate n.toNat c))) H) : rRepS (.str (S [c])) (.int n) H Q := ⟨c, n, rfl, rfl, h1, h2, q⟩
theorem r_ixS (h : a.length ≤ 100000) (ha : atI a i = some c) (q : Q (.str (S [c])) H) : rIxS (.str (S a)) (.int i) H Q := ⟨S a, i, c, rfl, rfl, by rw [S_len]; exact Nat.le_trans h (by decide), ha, q⟩
theorem r_lenSS (h : a.length ≤ 100000) (q : Q (.int (a.length : Nat)) H) : rLenT [.str (S a)] H Q := ⟨S a, rfl, by rw [S_len]; exact Nat.le_trans h (by decide), by rw [S_len]; exact q⟩
theorem r_M1 {r : V → List V → Hp → VK → Prop} (h : ta σ H fun x H1 => (∃ a, x = .str a) ∧ te σ H1 fun y H2 => r x [y] H2 Q) : tM1 r ta te σ H Q := h
theorem r_exS {A : Prop} {x : Str} (h : A) : (∃ a, V.str x = .str a) ∧ A := ⟨⟨x, rfl⟩, h⟩
theorem tl_joinE (ls : List (List Nat)) : Txt.join (S []) (ls.map S) = S ls.flatten := by
  rw [TL.join_eq]
  refine TL.ext_tl ?_
  rw [TL.tl_join]
  have e : (ls.map S).map TL.tl = ls := map_S_tl ls
  rw [e]
  show TL.joinL [] ls = ls.flatten
  induction ls with
  | nil => rfl
  | cons x r ih =>
    cases r with
    | nil => simp [TL.joinL]
    | cons y r => rw [TL.joinL, List.nil_append, ih (map_S_tl _), List.flatten_cons (l := x)]
theorem r_join {p : Addr} {ls : List (List Nat)} (h : SqL K H p (ls.map fun l => V.str (S l))) (hl : ls.flatten.length ≤ 100000) (q : Q (.str (S ls.flatten)) H) : rJoin K (.str (S [])) [.ref p] H Q := by
  refine ⟨S [], p, ls.map S, rfl, rfl, .inl ?_, ?_, ?_⟩
  · rw [List.map_map]
    exact h
  · rw [lens, S_len, List.length_nil, Nat.mul_zero, Nat.add_zero, ← List.length_flatten]
    exact Nat.le_trans hl (by decide)
  · rw [tl_joinE]
    exact q
theorem r_strI {n : Nat} (h : n < 2 ^ 1900) (q : Q (.str (S (TL.numL n))) H) : rStrI [.int (n : Int)] H Q :=
  ⟨(n : Int), rfl, by rw [Int.natAbs_natCast]; exact Nat.lt_of_lt_of_le (PySem.Flt.log2_lt_of (by decide) h) (by decide), by rw [num_S]; exact q⟩
theorem r_intS {l : List Nat} (h : l.all (fun c => decide (48 ≤ c) && decide (c ≤ 57)) = true) (hne : l ≠ []) (hl : l.length ≤ 640) (q : Q (.int ((NumText.digitsVal l : Nat) : Int)) H) : rIntS [.str (S l)] H Q :=
  ⟨S l, _, rfl, int_S h hne (by omega), by rw [S_len]; exact hl, q⟩
theorem r_divmod {n m : Nat} (h0 : 0 < m) (h1 : m < 2 ^ 8000) (q : ∀ p H', H p = none → H' p = some (.tup [.int ((n / m : Nat) : Int), .int ((n % m : Nat) : Int)]) → Same H H' → Q (.ref p) H') : rDivmod [.int (n : Int), .int (m : Int)] H Q :=
  ⟨n, m, rfl, ⟨by omega, PyProof.noPylong_of_log2 (by rw [Int.natAbs_natCast]; exact Nat.lt_of_lt_of_le (PySem.Flt.log2_lt_of (by decide) h1) (by decide))⟩, fun p hp => by
    have e1 : ((n : Int) / (m : Int)) = ((n / m : Nat) : Int) := by exact_mod_cast rfl
    have e2 : ((n : Int) % (m : Int)) = ((n % m : Nat) : Int) := by exact_mod_cast rfl
    rw [e1, e2]
    exact q p _ hp upd_same (same_new hp)⟩
theorem r_inSign {l : List Nat} (q : Q (.bl (decide (c ∈ l))) H) : rInSign (.str (S [c])) (.str (S l)) H Q := ⟨c, S l, rfl, rfl, q⟩
theorem r_iStr {R : It → Hp → Prop} (h : te σ H fun v H1 => ∃ x, v = .str x ∧ R (Its x) H1) : iStr te σ H R := h
theorem r_exStr {R : Str → Prop} {x : Str} (h : R x) : ∃ z, V.str x = .str z ∧ R z := ⟨x, rfl, h⟩
theorem for_str {l : List Nat} {g : TG} {tb : TS} {D : Ends} (Pv : Nat → L2.St → Hp → Prop) (h0 : Pv 0 σ H)
    (hs : ∀ i c σ H, l[i]? = some c → Pv i σ H → g (.str (S [c])) σ H fun σ2 H2 => tb { D with nx := Pv (i + 1), ct := Pv (i + 1), bk := D.nx } σ2 H2) (hd : ∀ σ H, Pv l.length σ H → D.nx σ H) :
    ∃ W : Nat → Nat → L2.St → Hp → Prop, (∃ m, W 0 m σ H) ∧ ∀ i m σ H, W i m σ H →
      ((Its (S l)).stop i H ∧ D.nx σ H) ∨ ((Its (S l)).go i H ∧ ∃ N : L2.St → Hp → Prop, (∀ σ' H', N σ' H' → ∃ m', m' < m ∧ W (i + 1) m' σ' H') ∧ ∀ x H', (Its (S l)).yld i H x H' → g x σ H' fun σ2 H2 => tb { D with nx := N, ct := N, bk := D.nx } σ2 H2) := by
  have es : (S l).cps.size = l.length := by simp [S]
  refine ⟨fun i m σ H => m = l.length - i ∧ i ≤ l.length ∧ Pv i σ H, ⟨l.length, by simp, Nat.zero_le _, h0⟩, ?_⟩
  rintro i m σ H ⟨rfl, hi, p⟩
  by_cases hlt : i < l.length
  · refine .inr ⟨by show i < _; rw [es]; exact hlt, Pv (i + 1), fun σ' H' p' => ⟨l.length - (i + 1), by omega, rfl, hlt, p'⟩, fun x H' y => ?_⟩
    obtain ⟨e, c, hc, rfl⟩ := y
    subst e
    have hc' : l[i]? = some c := by
      have : (S l).cps[i]? = l[i]? := by simp [S]
      rw [← this]
      exact hc
    exact hs i c σ H' hc' p
  · have e : i = l.length := by omega
    subst e
    exact .inl ⟨by show _ ≤ _; rw [es]; exact Nat.le_refl _, hd σ H p⟩
theorem cutS_to (l : List Nat) (k : Nat) : cutS (S l) none (some (k : Int)) = S (l.take k) := by
  unfold cutS
  rw [HT.sIx_none, HT.sIx_nat, S_len]
  show S ((l.drop 0).take (min k l.length - 0)) = _
  rw [List.drop_zero, Nat.sub_zero]
  congr 1
  rcases Nat.le_total k l.length with h | h
  · rw [Nat.min_eq_left h]
  · rw [Nat.min_eq_right h, List.take_of_length_le (Nat.le_refl _), List.take_of_length_le h]
theorem cutS_from (l : List Nat) (k : Nat) : cutS (S l) (some (k : Int)) none = S (l.drop k) := by
  unfold cutS
  rw [HT.sIx_none, HT.sIx_nat, S_len]
  show S ((l.drop (min k l.length)).take (l.length - min k l.length)) = _
  rcases Nat.le_total k l.length with h | h
  · rw [Nat.min_eq_left h, List.take_of_length_le (by rw [List.length_drop]; exact Nat.le_refl _)]
  · rw [Nat.min_eq_right h, List.drop_of_length_le (Nat.le_refl _), List.drop_of_length_le h, List.take_nil]
theorem r_slS_to {l : List Nat} {k : Nat} (h : l.length ≤ 100000) (q : Q (.str (S (l.take k))) H) : rSlS (.str (S l)) none (some (k : Int)) H Q := ⟨S l, rfl, by rw [S_len]; exact Nat.le_trans h (by decide), by rw [cutS_to]; exact q⟩
theorem r_slS_from {l : List Nat} {k : Nat} (h : l.length ≤ 100000) (q : Q (.str (S (l.drop k))) H) : rSlS (.str (S l)) (some (k : Int)) none H Q := ⟨S l, rfl, by rw [S_len]; exact Nat.le_trans h (by decide), by rw [cutS_from]; exact q⟩
def RevC (K : PySem.W.Frag) (Q : VK) (x : V) (H1 : Hp) : Prop := ∃ a xs, x = .ref a ∧ SqL K H1 a xs ∧ ∀ p, H1 p = none → Q (.ref p) (upd H1 p (.lst xs.reverse))
theorem r_revL (h : te σ H fun x H1 => RevC K Q x H1) : tRevL K te σ H Q := h
theorem revC {p : Addr} {xs : List V} (h : SqL K H p xs) (q : NewC Q xs.reverse H) : RevC K Q (.ref p) H := ⟨p, xs, rfl, h, q⟩
theorem r_iteS {A B : Prop} (h1 : a = b → A) (h2 : a ≠ b → B) : if decide (V.str (S a) = V.str (S b)) = true then A else B := r_ite (fun e => h1 (S_inj (V.str.inj e))) (fun e => h2 fun z => e (by rw [z]))
theorem r_iteNS {A B : Prop} (h1 : a ≠ b → A) (h2 : a = b → B) : if (!decide (V.str (S a) = V.str (S b))) = true then A else B := r_iteN (fun e => h1 fun z => e (by rw [z])) (fun e => h2 (S_inj (V.str.inj e)))
theorem r_eqSS (q : Q (.bl (decide (V.str (S a) = V.str (S b)))) H) : rEq (.str (S a)) (.str (S b)) H Q := ⟨rfl, q⟩
theorem r_neSS (q : Q (.bl (!decide (V.str (S a) = V.str (S b)))) H) : rNe (.str (S a)) (.str (S b)) H Q := ⟨rfl, q⟩
end
/-! ### figures -/
open TL
def fixd : Nat → Nat → List Nat
  | 0, _ => []
  | k + 1, r => fixd k (r / 10) ++ [48 + r % 10]
theorem fixd_zero : ∀ k, fixd k 0 = List.replicate k 48
  | 0 => rfl
  | k + 1 => by
    show fixd k (0 / 10) ++ [48 + 0 % 10] = _
    rw [Nat.zero_div, fixd_zero k, Nat.zero_mod, List.replicate_succ']
theorem num_split : ∀ (k q r : Nat), 0 < q → r < 10 ^ k → numL (q * 10 ^ k + r) = numL q ++ fixd k r
  | 0, q, r, hq, hr => by
    have : r = 0 := by simpa using hr
    subst this
    simp [fixd]
  | k + 1, q, r, hq, hr => by
    have h1 : 10 ≤ q * 10 ^ (k + 1) + r := by
      have : 10 ^ 1 ≤ 10 ^ (k + 1) := Nat.pow_le_pow_right (by decide) (by omega)
      have : 1 * 10 ^ (k + 1) ≤ q * 10 ^ (k + 1) := Nat.mul_le_mul_right _ hq
      omega
    have e0 : q * 10 ^ (k + 1) + r = (q * 10 ^ k) * 10 + r := by rw [Nat.pow_succ, Nat.mul_assoc]
    have e1 : (q * 10 ^ (k + 1) + r) / 10 = q * 10 ^ k + r / 10 := by omega
    have e2 : (q * 10 ^ (k + 1) + r) % 10 = r % 10 := by omega
    rw [numL_step h1, e1, e2, num_split k q (r / 10) hq (by rw [Nat.pow_succ] at hr; omega), List.append_assoc]
    rfl
theorem fixd_pad : ∀ (k r : Nat), r < 10 ^ (k + 1) → fixd (k + 1) r = List.replicate (k + 1 - (numL r).length) 48 ++ numL r
  | k, r, hr => by
    induction k generalizing r with
    | zero =>
      rw [numL_lt (by simpa using hr)]
      show fixd 0 (r / 10) ++ [48 + r % 10] = _
      rw [Nat.mod_eq_of_lt (by simpa using hr)]
      rfl
    | succ k ih =>
      by_cases h : r < 10
      · rw [numL_lt h]
        show fixd (k + 1) (r / 10) ++ [48 + r % 10] = _
        rw [Nat.div_eq_of_lt h, fixd_zero, Nat.mod_eq_of_lt h]
        rfl
      · rw [numL_step (by omega)]
        show fixd (k + 1) (r / 10) ++ [48 + r % 10] = _
        rw [ih (r / 10) (by rw [Nat.pow_succ] at hr; omega), List.length_append, List.append_assoc]
        congr 2
        show k + 1 - _ = k + 1 + 1 - (_ + 1)
        omega
theorem numL_len_le {n k : Nat} (h : n < 10 ^ (k + 1)) : (numL n).length ≤ k + 1 := numL_len (Nat.succ_pos k) h
theorem zfill_num {n k : Nat} (h : n < 10 ^ (k + 1)) : Txt.zfill (S (numL n)) ((k + 1 : Nat) : Int) = S (fixd (k + 1) n) := by
  rw [fixd_pad k n h]
  unfold Txt.zfill
  have hl := numL_len_le h
  rw [S_len]
  by_cases h1 : ((k + 1 : Nat) : Int) ≤ ((numL n).length : Int)
  · rw [if_pos h1]
    have : k + 1 - (numL n).length = 0 := by omega
    rw [this]
    rfl
  · rw [if_neg h1]
    have hd := numL_digits n
    have hz : ∀ m, zfilled (S (numL n)) m = Builtin.Str.padded (S (numL n)) m 0 48 := by
      intro m
      unfold zfilled
      have hne := numL_ne n
      cases e : numL n with
      | nil => exact absurd e hne
      | cons c r =>
        have hc := hd c (by rw [e]; exact List.mem_cons_self ..)
        have : (S (c :: r)).cps[0]? = some c := by simp [S]
        rw [this]
        split
        · rename_i z
          have := Option.some.inj z
          omega
        · rename_i z
          have := Option.some.inj z
          omega
        · rfl
    rw [hz]
    refine ext_tl ?_
    show (Builtin.Str.padded _ _ _ _).cps.toList = _
    rw [PyProof.Rows.padded_list]
    show List.replicate _ 48 ++ numL n ++ List.replicate 0 48 = List.replicate _ 48 ++ numL n
    rw [Int.toNat_natCast, List.replicate_zero, List.append_nil]
end Pw

namespace Pw
open PySem PySem.Spec PyProof.Rows L2 SX
/-! promises of the program's roots -/
def spTaken : Sp := fun vs H Q _ => ∃ (b e a : Nat), vs = [.int (b : Int), .int (e : Int)] ∧ b < 2 ^ a ∧ a * e ≤ 1000000 ∧ e < 2 ^ 60 ∧ Q (.int ((b ^ e : Nat) : Int)) H
theorem bits_lt (n : Nat) : n < 2 ^ Builtin.Int.intBits (n : Int) := by
  unfold Builtin.Int.intBits
  by_cases h : (n : Int) == 0
  · rw [if_pos h]
    have : n = 0 := by simpa using h
    rw [this]
    decide
  · rw [if_neg h, Int.natAbs_natCast]
    exact Nat.lt_log2_self
theorem bits_le {n m : Nat} (h : n < 2 ^ m) : Builtin.Int.intBits (n : Int) ≤ m := PyProof.Rows.intBits_le (by rw [Int.natAbs_natCast]; exact h)
theorem bits_ge {n : Nat} (h : 0 < n) : 2 ^ (Builtin.Int.intBits (n : Int) - 1) ≤ n ∧ 0 < Builtin.Int.intBits (n : Int) := by
  unfold Builtin.Int.intBits
  rw [if_neg (by simp; omega), Int.natAbs_natCast]
  exact ⟨Nat.log2_self_le (by omega), Nat.succ_pos _⟩
theorem cast_lt {b a : Nat} (h : b < 2 ^ a) : ((b : Nat) : Int).natAbs < 2 ^ a := by rw [Int.natAbs_natCast]; exact h
theorem mulx_nat {n m : Nat} (a b : Nat) (ha : n ≤ 2 ^ a) (hb : m ≤ 2 ^ b) (h : a + b ≤ 100000000) : CMulX (n : Int) (m : Int) :=
  mulx_ok (a := a + 1) (b := b + 1) (cast_lt (Nat.lt_of_le_of_lt ha (Nat.pow_lt_pow_right (by decide) (Nat.lt_succ_self a)))) (cast_lt (Nat.lt_of_le_of_lt hb (Nat.pow_lt_pow_right (by decide) (Nat.lt_succ_self b)))) (by omega)
theorem mulx_pows {b e a q q' : Nat} (hb : b < 2 ^ a) (hae : a * e ≤ 1000000) (h : q ≤ e) (h' : q' ≤ e) : CMulX ((b ^ q : Nat) : Int) ((b ^ q' : Nat) : Int) :=
  mulx_nat (a * e) (a * e) (Pm.pow_bound hb h) (Pm.pow_bound hb h') (by omega)
theorem pow_at {b e p : Nat} : b ^ (e / 2 ^ p) = (if (e / 2 ^ p) % 2 = 1 then b ^ (e / 2 ^ (p + 1)) * b ^ (e / 2 ^ (p + 1)) * b else b ^ (e / 2 ^ (p + 1)) * b ^ (e / 2 ^ (p + 1))) := Pm.pow_bit b e p
theorem mono_vv {g : Int → Int → V} {a b : Nat} (σ : L2.St) (H : Hp) (R R' : Bool → Hp → Prop) (h : ∀ c H1, R c H1 → R' c H1) (x : tTest (tOp (rI0 g) (tVar a) (tVar b)) σ H R) : tTest (tOp (rI0 g) (tVar a) (tVar b)) σ H R' := by
  obtain ⟨v, hv, w, hw, i, j, e1, e2, k, ek, r⟩ := x
  exact ⟨v, hv, w, hw, i, j, e1, e2, k, ek, h _ _ r⟩
def spStep : Sp := fun vs H Q _ => ∃ (n m x s : Nat), vs = [.int (n : Int), .int ((m + 1 : Nat) : Int), .int (x : Int)] ∧ 0 < x ∧ x ≤ 2 ^ s ∧ s * m ≤ 8900 ∧ m ≤ 8000 ∧ s ≤ 8900 ∧ Q (.int (Pm.step n m x : Nat)) H
def spRoot : Sp := fun vs H Q _ => ∃ (n e : Nat), vs = [.int (n : Int), .int (e : Int)] ∧ 0 < e ∧ e ≤ 4000 ∧ n < 2 ^ 4000 ∧ ∀ r : Nat, Pm.IsRoot n e r → Q (.int (r : Int)) H
def spRootOf : Sp := fun vs H Q _ => ∃ (n e : Nat), vs = [.int (n : Int), .int (e : Int)] ∧ 0 < e ∧ e ≤ 201 ∧ n < 2 ^ 4000 ∧
  ∀ (r : Nat) (p : Addr) (H' : Hp), Pm.IsRoot n e r → H p = none → Same H H' → H' p = some (.tup [.int (r : Int), .int ((n : Int) - ((r ^ e : Nat) : Int))]) → Q (.ref p) H'
theorem root_start {n e L : Nat} (hn : 0 < n) (he : 0 < e) (h1 : n < 2 ^ L) : n < (2 ^ ((L - 1) / e + 1) + 1) ^ e := by
  refine Nat.lt_of_lt_of_le h1 ?_
  refine Nat.le_trans ?_ (Nat.pow_le_pow_left (Nat.le_succ _) e)
  rw [← Nat.pow_mul]
  refine Nat.pow_le_pow_right (by decide) ?_
  have := Nat.lt_mul_div_succ (L - 1) he
  rw [Nat.mul_comm]
  have e2 : e * ((L - 1) / e).succ = e * ((L - 1) / e + 1) := rfl
  omega
theorem s_bound {L e s : Nat} (he : 0 < e) (hs : s = (L - 1) / e + 1) : s * (e - 1) ≤ L + e := by
  have h := Nat.div_mul_le_self (L - 1) e
  subst hs
  have h2 : (L - 1) / e * (e - 1) ≤ (L - 1) / e * e := Nat.mul_le_mul_left _ (by omega)
  rw [Nat.succ_mul]
  omega
theorem root_done {n m x : Nat} (hx : 0 < x) (h1 : n < (x + 1) ^ (m + 1)) (h2 : ¬ Pm.step n m x < x) : Pm.IsRoot n (m + 1) x :=
  ⟨Nat.le_of_not_lt fun z => h2 (Pm.step_down z), h1⟩
theorem step_pos {n m x : Nat} (hn : 0 < n) (hx : 0 < x) : 0 < Pm.step n m x := by
  have := Pm.step_up (n := n) (m := m) hx
  rcases Nat.eq_zero_or_pos (Pm.step n m x) with z | z
  · rw [z, Nat.zero_add, Nat.one_pow] at this
    omega
  · exact z
def meas (σ : L2.St) : Nat := match σ with
  | [_, _, _, some (.int x), _] => x.toNat
  | _ => 0
def spLaw (K : PySem.W.Frag) : Sp := fun vs H Q _ => ∃ (a : Addr) (ns : List Int), vs = [.ref a] ∧ SqL K H a (ns.map V.int) ∧ ns.length ≤ 63 ∧ ∀ H', Q (.bl true) H'
def PairOk (a e : Int) : Prop := 0 ≤ a ∧ a ≤ 10 ^ 40 ∧ 1 ≤ e ∧ e ≤ 200
theorem small40 {a : Int} (h0 : 0 ≤ a) (h : a ≤ 10 ^ 40) : ∃ n : Nat, a = n ∧ n < 2 ^ 140 ∧ n ≤ 10 ^ 40 := by
  refine ⟨a.toNat, by omega, ?_, ?_⟩
  · have e : ((10 : Int) ^ 40) < 2 ^ 140 := by decide
    have e2 : ((2 : Int) ^ 140).toNat = 2 ^ 140 := by decide
    omega
  · have e2 : ((10 : Int) ^ 40).toNat = 10 ^ 40 := by decide
    omega
theorem root_le {n e r : Nat} (he : 0 < e) (h : Pm.IsRoot n e r) : r ≤ n := by
  refine Nat.le_trans ?_ h.1
  rcases Nat.eq_zero_or_pos r with z | z
  · rw [z]; exact Nat.zero_le _
  · exact Nat.le_self_pow (by omega) r
end Pw

namespace Pw
open PySem PySem.Spec PyProof.Rows L2 SX TL
theorem lit_e : Str.ofString "" = S [] := by decide +kernel
theorem lit_fig : Str.ofString "0123456789" = S [48, 49, 50, 51, 52, 53, 54, 55, 56, 57] := by decide +kernel
theorem lit_0 : Str.ofString "0" = S [48] := by decide +kernel
theorem lit_hat : Str.ofString "^" = S [94] := by decide +kernel
theorem lit_00 : Str.ofString "0^0" = S [48, 94, 48] := by decide +kernel
theorem lit_210 : Str.ofString "2^10" = S [50, 94, 49, 48] := by decide +kernel
def figs : List Nat := [48, 49, 50, 51, 52, 53, 54, 55, 56, 57]
def dgt (c : Nat) : Bool := decide (48 ≤ c) && decide (c ≤ 57)
theorem dgt_iff {c : Nat} : dgt c = true ↔ 48 ≤ c ∧ c ≤ 57 := by simp [dgt]
theorem mem_figs {c : Nat} : c ∈ [48, 49, 50, 51, 52, 53, 54, 55, 56, 57] ↔ dgt c = true := by
  rw [dgt_iff]
  simp only [List.mem_cons, List.not_mem_nil, or_false]
  omega
theorem digit_at {d : Nat} (h : d < 10) : atI [48, 49, 50, 51, 52, 53, 54, 55, 56, 57] (d : Int) = some (48 + d) := by
  refine atI_nat ?_
  have : d = 0 ∨ d = 1 ∨ d = 2 ∨ d = 3 ∨ d = 4 ∨ d = 5 ∨ d = 6 ∨ d = 7 ∨ d = 8 ∨ d = 9 := by omega
  rcases this with rfl | rfl | rfl | rfl | rfl | rfl | rfl | rfl | rfl | rfl <;> rfl
theorem same_updNew {H H' : Hp} {l : Addr} {o : HO} (s : Same H H') (h : H l = none) : Same H (upd H' l o) := fun b x hb => by rw [upd_ne (ne_of_none hb h)]; exact s b x hb
theorem fixd_len : ∀ k r : Nat, (fixd k r).length = k
  | 0, _ => rfl
  | k + 1, r => by
    show (fixd k (r / 10) ++ [48 + r % 10]).length = k + 1
    rw [List.length_append, fixd_len k]
    rfl
theorem digitsVal_snoc (l : List Nat) (c : Nat) : NumText.digitsVal (l ++ [c]) = NumText.digitsVal l * 10 + (c - 48) := by
  unfold NumText.digitsVal
  rw [List.foldl_append]
  rfl
theorem fold_lt : ∀ (l : List Nat) (a k : Nat), NumText.AllDigits l → a < 10 ^ k → l.foldl (fun acc c => acc * 10 + (c - 48)) a < 10 ^ (k + l.length)
  | [], a, k, _, h => h
  | c :: r, a, k, hd, h => by
    have hc := hd.head
    have := fold_lt r (a * 10 + (c - 48)) (k + 1) hd.tail (by rw [Nat.pow_succ]; omega)
    rw [List.foldl_cons, List.length_cons]
    rw [show k + (r.length + 1) = k + 1 + r.length by omega]
    exact this
theorem digitsVal_lt {l : List Nat} (h : NumText.AllDigits l) : NumText.digitsVal l < 10 ^ l.length := by
  have := fold_lt l 0 0 h (by decide)
  rw [Nat.zero_add] at this
  exact this
theorem numL_head : ∀ (n : Nat), 0 < n → ∀ c r, numL n = c :: r → c ≠ 48
  | n, hn, c, r, e => by
    by_cases h : n < 10
    · rw [numL_lt h] at e
      cases e
      omega
    · rw [numL_step (by omega)] at e
      cases e2 : numL (n / 10) with
      | nil => exact absurd e2 (numL_ne _)
      | cons c' r' =>
        rw [e2] at e
        cases e
        exact numL_head (n / 10) (by omega) _ _ e2
termination_by n => n
decreasing_by omega
theorem numL_dgt (n : Nat) : ∀ c ∈ numL n, dgt c = true := fun c hc => dgt_iff.mpr (numL_digits n c hc)
theorem takeW_all {l r : List Nat} (h : ∀ c ∈ l, dgt c = true) (h2 : ∀ c s, r = c :: s → dgt c = false) : (l ++ r).takeWhile dgt = l := by
  induction l with
  | nil =>
    cases r with
    | nil => rfl
    | cons c s => rw [List.nil_append, List.takeWhile_cons, h2 c s rfl]; rfl
  | cons c l ih =>
    rw [List.cons_append, List.takeWhile_cons, h c (List.mem_cons_self ..), if_pos rfl, ih fun d hd => h d (List.mem_cons_of_mem _ hd)]
theorem takeW_self {l : List Nat} (h : ∀ c ∈ l, dgt c = true) : l.takeWhile dgt = l := by
  have := takeW_all (r := []) h (fun _ _ z => nomatch z)
  rw [List.append_nil] at this
  exact this
section
variable {X : Cx} {x : Str} {pos : Pos}
theorem pe_globI {i : Int} {tk : Tok} (hg : Gl X x) (hm : X.mg x = some (.int i tk)) (hd : (x == ("__debug__" : Str)) = false := by decide) : PE X (.Name x pos) (tC (.int i)) := pe_glob hg hm ⟨_, rfl⟩ hd
theorem pe_globS {z : Str} {tk : Tok} (hg : Gl X x) (hm : X.mg x = some (.str z tk)) (hd : (x == ("__debug__" : Str)) = false := by decide) : PE X (.Name x pos) (tC (.str z)) := pe_glob hg hm ⟨_, rfl⟩ hd
theorem pe_globR {a : Addr} (hg : Gl X x) (hm : X.mg x = some (.ref a)) (hd : (x == ("__debug__" : Str)) = false := by decide) : PE X (.Name x pos) (tC (.ref a)) := pe_glob hg hm rfl hd
end
/-- where the figures from s on end -/
def runEnd (l : List Nat) (s : Nat) : Nat := s + ((l.drop s).takeWhile dgt).length
theorem tw_len (l : List Nat) : (l.takeWhile dgt).length ≤ l.length := by
  induction l with
  | nil => exact Nat.le_refl _
  | cons c r ih =>
    rw [List.takeWhile_cons]
    split
    · simp; exact ih
    · exact Nat.zero_le _
theorem runEnd_le {l : List Nat} {s : Nat} (h : s ≤ l.length) : runEnd l s ≤ l.length := by
  unfold runEnd
  have := tw_len (l.drop s)
  rw [List.length_drop] at this
  omega
theorem tw_at (l : List Nat) : ∀ k, k < (l.takeWhile dgt).length → ∃ c, l[k]? = some c ∧ dgt c = true := by
  induction l with
  | nil => intro k hk; exact absurd hk (Nat.not_lt_zero _)
  | cons c r ih =>
    intro k hk
    rw [List.takeWhile_cons] at hk
    cases hc : dgt c with
    | false => rw [hc] at hk; exact absurd hk (Nat.not_lt_zero _)
    | true =>
      rw [hc] at hk
      cases k with
      | zero => exact ⟨c, rfl, hc⟩
      | succ k =>
        have := ih k (by simpa using hk)
        simpa using this
theorem tw_end (l : List Nat) : ∀ c, l[(l.takeWhile dgt).length]? = some c → dgt c = false := by
  induction l with
  | nil => intro c hc; exact absurd hc (by simp)
  | cons d r ih =>
    intro c hc
    rw [List.takeWhile_cons] at hc
    cases hd : dgt d with
    | false =>
      rw [hd] at hc
      have : d = c := by simpa using hc
      rw [← this]
      exact hd
    | true =>
      rw [hd] at hc
      exact ih c (by simpa using hc)
theorem run_in {l : List Nat} {s k : Nat} (h1 : s ≤ k) (h2 : k < runEnd l s) : ∃ c, l[k]? = some c ∧ dgt c = true := by
  have := tw_at (l.drop s) (k - s) (by unfold runEnd at h2; omega)
  rw [List.getElem?_drop, show s + (k - s) = k by omega] at this
  exact this
theorem run_out {l : List Nat} {s : Nat} {c : Nat} (h : l[runEnd l s]? = some c) : dgt c = false := by
  refine tw_end (l.drop s) c ?_
  rw [List.getElem?_drop]
  exact h
def spFigEnd : Sp := fun vs H Q _ => ∃ (l : List Nat) (s : Nat), vs = [.str (S l), .int (s : Int)] ∧ l.length ≤ 10000 ∧ s ≤ l.length ∧ runEnd l s ≠ s ∧ ¬ (l[s]? = some 48 ∧ s + 1 < runEnd l s) ∧ Q (.int (runEnd l s : Nat)) H
def spWorth : Sp := fun vs H Q _ => ∃ (l : List Nat), vs = [.str (S l)] ∧ l.length ≤ 10000 ∧ NumText.AllDigits l ∧ Q (.int (NumText.digitsVal l : Nat)) H
/-- what is read of a number's figures, of BASE^EXPONENT -/
def spReadOk : Sp := fun vs H Q _ => ∃ (l : List Nat) (b : Nat), vs = [.str (S l)] ∧ (numL b).length ≤ 5000 ∧ ((l = numL b ∧ Q (.int (b : Nat)) H) ∨ ∃ e : Nat, l = numL b ++ 94 :: numL e ∧ e ≤ 200 ∧ b < 2 ^ 4000 ∧ Q (.int ((b ^ e : Nat) : Int)) H)
def spShown : Sp := fun vs H Q _ => ∃ n : Nat, vs = [.int (n : Int)] ∧ n < 10 ^ 5000 ∧ ∀ H', Same H H' → Q (.str (S (numL n))) H'
def spFigures : Sp := fun vs H Q _ => ∃ n : Nat, vs = [.int (n : Int)] ∧ n < 10 ^ 5000 ∧ Q (.str (S (numL n))) H
def spWhole : Sp := fun vs H Q _ => ∃ a : Int, vs = [.int a, .int a] ∧ Q (.bl true) H
end Pw
namespace Pw
open PySem PySem.Spec PyProof.Rows L2
/-- while by a word and a measure, its test read along (nothing to be shown of the test) -/
def WhileGo (W : L2.St → Hp → Prop) (μ : L2.St → Hp → Nat) (m : Nat) (t : TS) (D : Ends) (σ : L2.St) (H : Hp) : Prop :=
  ∃ N : L2.St → Hp → Prop, (∀ σ' H', N σ' H' → ∃ m', m' < m ∧ (m' = μ σ' H' ∧ W σ' H')) ∧ t { D with nx := N, ct := N, bk := D.nx } σ H
theorem whileGo {W : L2.St → Hp → Prop} {μ : L2.St → Hp → Nat} {m : Nat} {t : TS} {D : Ends} {σ : L2.St} {H : Hp}
    (h : ∀ N : L2.St → Hp → Prop, (∀ σ' H', W σ' H' → μ σ' H' < m → N σ' H') → t { D with nx := N, ct := N, bk := D.nx } σ H) : WhileGo W μ m t D σ H :=
  ⟨fun σ' H' => W σ' H' ∧ μ σ' H' < m, fun σ' H' ⟨a, b⟩ => ⟨μ σ' H', b, rfl, a⟩, h _ fun σ' H' a b => ⟨a, b⟩⟩
theorem r_whl {tt : TT} {t : TS} {D : Ends} {σ : L2.St} {H : Hp} (W : L2.St → Hp → Prop) (μ : L2.St → Hp → Nat) (h0 : W σ H)
    (hs : ∀ σ H, W σ H → tt σ H fun b H1 => if b = true then WhileGo W μ (μ σ H) t D σ H1 else D.nx σ H1) : tWhile tt t D σ H := by
  refine ⟨fun m σ H => m = μ σ H ∧ W σ H, ⟨_, rfl, h0⟩, ?_⟩
  rintro m σ H ⟨rfl, w⟩
  exact hs σ H w
end Pw
namespace Pw
open PySem PySem.Spec PyProof.Rows L2
theorem r_aug {n : Nat} {te : TE} {ti : TIp} {D : Ends} {σ : L2.St} {H : Hp} {x : V} (h : σ[n]? = some (some x)) (q : te σ H fun y H1 => ti x y H1 fun z H2 => D.nx (σ.set n (some z)) H2) : tAug n te ti D σ H := ⟨x, h, q⟩
theorem r_ipI {f : Int → Int → Int} {i j : Int} {H : Hp} {Q : VK} (q : Q (.int (f i j)) H) : ipI f (.int i) (.int j) H Q := ⟨i, j, rfl, rfl, q⟩
end Pw
namespace Pw
open PySem PySem.Spec PyProof.Rows L2 SX TL
theorem fig_ok {l post : List Nat} {s b : Nat} (h : l.drop s = numL b ++ post) (h2 : ∀ c r, post = c :: r → dgt c = false) : runEnd l s = s + (numL b).length ∧ runEnd l s ≠ s ∧ ¬ (l[s]? = some 48 ∧ s + 1 < runEnd l s) := by
  have hne := numL_ne b
  have hpos : 0 < (numL b).length := List.length_pos_iff.mpr hne
  have e : runEnd l s = s + (numL b).length := by
    unfold runEnd
    rw [h, takeW_all (numL_dgt b) h2]
  refine ⟨e, by omega, ?_⟩
  rintro ⟨h0, h1⟩
  rw [e] at h1
  rcases Nat.eq_zero_or_pos b with z | z
  · rw [z, numL_lt (by decide)] at h1
    simp at h1
  · cases e2 : numL b with
    | nil => exact hne e2
    | cons c r =>
      have : l[s]? = some c := by
        have e3 : (l.drop s)[0]? = some c := by
          rw [h, e2]
          rfl
        rw [List.getElem?_drop, Nat.add_zero] at e3
        exact e3
      rw [this] at h0
      exact numL_head b z c r e2 (Option.some.inj h0)
end Pw
namespace Pw
theorem ediv_nat (n m : Nat) : (n : Int) / (m : Int) = ((n / m : Nat) : Int) := by exact_mod_cast rfl
theorem emod_nat (n m : Nat) : (n : Int) % (m : Int) = ((n % m : Nat) : Int) := by exact_mod_cast rfl
end Pw
namespace Pw
open PySem PySem.Spec PyProof.Rows L2 SX TL
/-- a list of tuples -/
structure RowsV (H : Hp) (l : Addr) (ps : List Addr) (R : List V → Prop) : Prop where
  lst : H l = some (.lst (ps.map V.ref))
  row : ∀ p ∈ ps, ∃ xs : List V, H p = some (.tup xs) ∧ R xs
theorem RowsV.same {H H' : Hp} {l : Addr} {ps : List Addr} {R : List V → Prop} (r : RowsV H l ps R) (s : Same H H') : RowsV H' l ps R :=
  ⟨s _ _ r.lst, fun p hp => let ⟨a, h, q⟩ := r.row p hp; ⟨a, s _ _ h, q⟩⟩
theorem RowsV.keep {H H' : Hp} {l d c : Addr} {n : Nat} {ps : List Addr} {R : List V → Prop} (r : RowsV H l ps R) (D : DeckAt H d c n) (hl : l ≠ d) (k : Keep d H H') : RowsV H' l ps R :=
  ⟨k _ _ hl r.lst, fun p hp => let ⟨a, h, q⟩ := r.row p hp; ⟨a, k _ _ (D.tup h) h, q⟩⟩
theorem RowsV.push {H H' : Hp} {l p : Addr} {ps : List Addr} {R : List V → Prop} {xs : List V} (r : RowsV H l ps R) (hp : H p = some (.tup xs)) (hr : R xs) (e : H' = upd H l (.lst (ps.map V.ref ++ [.ref p]))) : RowsV H' l (ps ++ [p]) R := by
  subst e
  refine ⟨by rw [upd_same, List.map_append]; rfl, fun q hq => ?_⟩
  rcases List.mem_append.mp hq with h | h
  · obtain ⟨a', h1, h2⟩ := r.row q h
    exact ⟨a', by rw [upd_ne (ne_of h1 r.lst (by intro z; cases z))]; exact h1, h2⟩
  · have : q = p := by simpa using h
    subst this
    exact ⟨xs, by rw [upd_ne (ne_of hp r.lst (by intro z; cases z))]; exact hp, hr⟩
theorem r_gTup3 {K : PySem.W.Frag} {p : Addr} {a b c : V} {i j k : Nat} {σ : L2.St} {H : Hp} {R : L2.St → Hp → Prop} (h : H p = some (.tup [a, b, c])) (q : R (((σ.set i (some a)).set j (some b)).set k (some c)) H) : gTup K 3 (gCons (gName i) (gCons (gName j) (gCons (gName k) gNil))) (.ref p) σ H R :=
  ⟨p, [a, b, c], rfl, SqT.of h, rfl, a, [b, c], rfl, b, [c], rfl, c, [], rfl, rfl, q⟩
theorem numL_lt_pow (n : Nat) : n < 10 ^ (numL n).length := by
  have h := digitsVal_lt (numL_digits n)
  rw [numL_val] at h
  exact h
end Pw

namespace Pw
open PySem PySem.Spec PyProof.Rows L2 SX TL
theorem r_gUnl2 {K : PySem.W.Frag} {p : Addr} {a b : V} {i j : Nat} {σ : L2.St} {H : Hp} {R : L2.St → Hp → Prop} (h : H p = some (.lst [a, b])) (q : R ((σ.set i (some a)).set j (some b)) H) : gUnl K 2 (gCons (gName i) (gCons (gName j) gNil)) (.ref p) σ H R :=
  ⟨p, [a, b], rfl, SqL.of h, rfl, a, [b], rfl, b, [], rfl, rfl, q⟩
/-- sorted of two -/
theorem r_sorted2 {K : PySem.W.Frag} {p : Addr} {a b : Int} {H : Hp} {Q : VK} (h : SqL K H p [.int a, .int b]) (q : ∀ (x y : Int) (p' : Addr) (H' : Hp), (x = a ∧ y = b ∨ x = b ∧ y = a) → x ≤ y → H p' = none → H' p' = some (.lst [.int x, .int y]) → Same H H' → Q (.ref p') H') : rSorted K [.ref p] H Q := by
  refine ⟨p, [a, b], rfl, h, (by show 2 < 64; decide), fun ns' p' hp hs np => ?_⟩
  have hl := hp.length_eq
  match ns', hl with
  | [x, y], _ =>
    have hx : x = a ∧ y = b ∨ x = b ∧ y = a := by
      have hm : x ∈ [a, b] := hp.mem_iff.mp (List.mem_cons_self ..)
      have h2 := List.perm_cons_erase hm
      simp only [List.mem_cons, List.not_mem_nil, or_false] at hm
      rcases hm with rfl | rfl
      · have := (List.perm_cons x).mp hp
        exact .inl ⟨rfl, by simpa using this⟩
      · have h3 : ([x, y] : List Int).Perm [x, a] := hp.trans (List.Perm.swap ..)
        have := (List.perm_cons x).mp h3
        exact .inr ⟨rfl, by simpa using this⟩
    exact q x y p' _ hx (by simpa using hs) np upd_same (same_new np)
/-! ### roots of roots -/
theorem root_root {n a b r q q' : Nat} (hr : Pm.IsRoot n a r) (hq : Pm.IsRoot r b q) (hq' : Pm.IsRoot n (a * b) q') : q = q' := by
  refine Pm.IsRoot.uniq (n := n) (k := a * b) ⟨?_, ?_⟩ hq'
  · rw [Nat.mul_comm, Nat.pow_mul]
    exact Nat.le_trans (Nat.pow_le_pow_left hq.1 a) hr.1
  · rw [Nat.mul_comm, Nat.pow_mul]
    exact Nat.lt_of_lt_of_le hr.2 (Nat.pow_le_pow_left hq.2 a)
theorem root_mono {n m k r s : Nat} (h : n ≤ m) (hr : Pm.IsRoot n k r) (hs : Pm.IsRoot m k s) : r ≤ s := by
  have := Pm.lt_of_pow_lt (Nat.lt_of_le_of_lt (Nat.le_trans hr.1 h) hs.2)
  omega
theorem root_times {n a b r s : Nat} (hr : Pm.IsRoot n a r) (hs : Pm.IsRoot (n * b ^ a) a s) : r * b ≤ s := by
  have h1 : (r * b) ^ a ≤ n * b ^ a := by
    rw [Nat.mul_pow]
    exact Nat.mul_le_mul_right _ hr.1
  have := Pm.lt_of_pow_lt (Nat.lt_of_le_of_lt h1 hs.2)
  omega
theorem root_pow {b k : Nat} (hk : 0 < k) : Pm.IsRoot (b ^ k) k b := ⟨Nat.le_refl _, Pm.pow_lt_of_lt (Nat.lt_succ_self b) hk⟩
theorem root_pred {b k : Nat} (hk : 0 < k) (hb : 0 < b) : Pm.IsRoot (b ^ k - 1) k (b - 1) := by
  have h1 := Pm.pow_lt_of_lt (show b - 1 < b by omega) hk
  have e : b - 1 + 1 = b := by omega
  refine ⟨by omega, ?_⟩
  rw [e]
  have : 0 < b ^ k := Nat.pow_pos hb
  omega
theorem root_one (n : Nat) : Pm.IsRoot n 1 n := ⟨by rw [Nat.pow_one]; exact Nat.le_refl _, by rw [Nat.pow_one]; exact Nat.lt_succ_self _⟩
theorem r_ixT0 {K : PySem.W.Frag} {p : Addr} {a b : V} {H : Hp} {Q : VK} (h : H p = some (.tup [a, b])) (q : Q a H) : rIxT K (.ref p) (.int 0) H Q := r_ixT (SqT.of h) rfl q
def spTakenR : Sp := fun vs H Q _ => ∃ (d c : Addr) (n b : Nat), vs = [.ref d, .int (b : Int)] ∧ b ≤ 10 ^ 40 ∧ DeckAt H d c n ∧ n ≤ 2 ^ 40 ∧ ∀ H', Keep d H H' → DeckAt H' d c (n + 2) → Q (.bl true) H'
def spRootsR : Sp := fun vs H Q _ => ∃ (d c : Addr) (n a b : Nat), vs = [.ref d, .int (a : Int), .int (b : Int)] ∧ a ≤ 10 ^ 40 ∧ b ≤ 10 ^ 40 ∧ DeckAt H d c n ∧ n ≤ 2 ^ 40 ∧ ∀ H', Keep d H H' → DeckAt H' d c (n + 3) → Q (.bl true) H'
end Pw

namespace Pw
open PySem PySem.Spec PyProof.Rows L2 SX TL
theorem r_rng2 {tr : TA} {σ : L2.St} {H : Hp} {R : It → Hp → Prop} (h : tr σ H fun vs H1 => ∃ i j : Int, vs = [.int i, .int j] ∧ (-(2 ^ 62) ≤ i ∧ i < 2 ^ 62 ∧ -(2 ^ 62) ≤ j ∧ j < 2 ^ 62) ∧ R (Itr i (j - i).toNat) H1) : iRng2 tr σ H R := h
theorem r_ex2 {i j : Int} {R : Int → Int → Prop} (h : R i j) : ∃ a b, [V.int i, V.int j] = [.int a, .int b] ∧ R a b := ⟨i, j, rfl, h⟩
def spIsPrime : Sp := fun vs H Q _ => ∃ n : Nat, vs = [.int (n : Int)] ∧ 2 ≤ n ∧ n ≤ 2 ^ 60 ∧ ∀ b : Bool, (b = true ↔ Pm.Prime n) → Q (.bl b) H
def spNextPrime : Sp := fun vs H Q _ => ∃ n : Nat, vs = [.int (n : Int)] ∧ 2 ≤ n ∧ n ≤ 210 ∧ ∀ p : Nat, n < p → p ≤ 211 → Pm.Prime p → (∀ q, Pm.Prime q → n < q → p ≤ q) → Q (.int (p : Int)) H
/-- base and greatest exponent -/
def GW (n b g : Nat) : Prop := (n = 0 ∧ b = 0 ∧ g = 1) ∨ (n = 1 ∧ b = 1 ∧ g = 2) ∨ (2 ≤ b ∧ Pm.NotPow b ∧ 1 ≤ g ∧ b ^ g = n)
def spGreatest : Sp := fun vs H Q _ => ∃ n : Nat, vs = [.int (n : Int)] ∧ n < 2 ^ 190 ∧ ∀ (b g : Nat) (p : Addr) (H' : Hp), GW n b g → H p = none → Same H H' → H' p = some (.tup [.int (b : Int), .int (g : Int)]) → Q (.ref p) H'
theorem prime211 : Pm.Prime 211 := Pm.prime_of_trial (by decide) fun d h2 h3 h4 => by
  have hd : d < 15 := by
    refine Nat.lt_of_not_le fun h => ?_
    have := Nat.mul_le_mul h h
    omega
  have : ∀ d, d < 15 → 2 ≤ d → ¬ d ∣ 211 := by decide
  exact this d hd h2 h4
end Pw
namespace Pw
theorem prime2 : Pm.Prime 2 := Pm.prime_of_trial (by decide) fun d h2 h3 h4 => by
  have := Nat.mul_le_mul h2 h2
  omega
end Pw
namespace Pw
open PySem PySem.Spec PyProof.Rows L2 SX TL
theorem r_rng3 {tr : TA} {σ : L2.St} {H : Hp} {R : It → Hp → Prop} (h : tr σ H fun vs H1 => ∃ (i j c : Int) (n : Nat), vs = [.int i, .int j, .int c] ∧ RgC i j c n ∧ R (Itc i c n) H1) : iRng3 tr σ H R := h
theorem r_shlN {H : Hp} {Q : VK} {i j : Int} (n k : Nat) (a : Nat) (hi : i = (n : Int)) (hj : j = (k : Int)) (ha : n < 2 ^ a) (hk : a + k ≤ 100000) (q : Q (.int ((n * 2 ^ k : Nat) : Int)) H) : rI CShl (fun i j => V.int (i * 2 ^ j.toNat)) (.int i) (.int j) H Q := by
  subst hi
  subst hj
  refine r_I (shl_ok (n := a) (by rw [Int.natAbs_natCast]; exact ha) (by omega)) ?_
  rw [Int.toNat_natCast]
  have e : ((n : Int) * 2 ^ k) = ((n * 2 ^ k : Nat) : Int) := by push_cast; rfl
  rw [e]
  exact q
def spLawRoot : Sp := fun vs H Q _ => ∃ n e : Nat, vs = [.int (n : Int), .int (e : Int)] ∧ n < 2 ^ 140 ∧ 1 ≤ e ∧ e ≤ 140 ∧ ∀ r : Nat, Pm.IsRoot n e r → Q (.int (r : Int)) H
def spLawDue : Sp := fun vs H Q _ => ∃ n : Nat, vs = [.int (n : Int)] ∧ n < 2 ^ 133 ∧ ∀ (b g : Nat) (p : Addr) (H' : Hp), GW n b g → H p = none → Same H H' → H' p = some (.tup [.int (b : Int), .int (g : Int)]) → Q (.ref p) H'
theorem GW.uniq {n b g b' g' : Nat} (h : GW n b g) (h' : GW n b' g') : b = b' ∧ g = g' := by
  rcases h with ⟨rfl, rfl, rfl⟩ | ⟨rfl, rfl, rfl⟩ | ⟨b2, np, g1, e⟩
  · rcases h' with ⟨_, rfl, rfl⟩ | ⟨z, _⟩ | ⟨b2, _, _, e⟩
    · exact ⟨rfl, rfl⟩
    · omega
    · have := Nat.pow_pos (n := g') (show 0 < b' by omega)
      omega
  · rcases h' with ⟨z, _⟩ | ⟨_, rfl, rfl⟩ | ⟨b2, _, g1, e⟩
    · omega
    · exact ⟨rfl, rfl⟩
    · have := Nat.one_lt_pow (show g' ≠ 0 by omega) (show 1 < b' by omega)
      omega
  · rcases h' with ⟨rfl, _, _⟩ | ⟨rfl, _, _⟩ | ⟨b2', np', g1', e'⟩
    · have := Nat.pow_pos (n := g) (show 0 < b by omega)
      omega
    · have := Nat.one_lt_pow (show g ≠ 0 by omega) (show 1 < b by omega)
      omega
    · obtain ⟨d1, e1⟩ := Pm.ways_of_pow b2 np g1 g1' (x := b') (k := g') (by rw [e, e'])
      obtain ⟨d2, e2⟩ := Pm.ways_of_pow b2' np' g1' g1 (x := b) (k := g) (by rw [e, e'])
      have hg : g = g' := Nat.dvd_antisymm d2 d1
      subst hg
      rw [Nat.div_self (by omega), Nat.pow_one] at e1
      exact ⟨e1.symm, rfl⟩
theorem pow_base2 {c e n : Nat} (he : 1 ≤ e) (hn : 2 ≤ n) (h : c ^ e = n) : 2 ≤ c := by
  refine Nat.le_of_not_lt fun z => ?_
  have : c = 0 ∨ c = 1 := by omega
  rcases this with rfl | rfl
  · rw [Nat.zero_pow (by omega)] at h
    omega
  · rw [Nat.one_pow] at h
    omega
end Pw
namespace Pw
open PySem PySem.Spec PyProof.Rows L2 SX TL
theorem r_yes {σ : L2.St} {H : Hp} {R : Bool → Hp → Prop} (h : R true H) : tYes σ H R := h
/-- pairs of a base and its greatest exponent, beside the numbers -/
structure Dues (H : Hp) (D : Addr) (xs : List Nat) (m : Nat) : Prop where
  ex : ∃ ps : List Addr, H D = some (.lst (ps.map V.ref)) ∧ ps.length = m ∧ ∀ (i n : Nat) (p : Addr), xs[i]? = some n → ps[i]? = some p → ∃ b g : Nat, GW n b g ∧ H p = some (.tup [.int (b : Int), .int (g : Int)])
theorem Dues.same {H H' : Hp} {D : Addr} {xs : List Nat} {m : Nat} (d : Dues H D xs m) (s : Same H H') : Dues H' D xs m := by
  obtain ⟨ps, h1, h2, h3⟩ := d.ex
  exact ⟨ps, s _ _ h1, h2, fun i n p a b => let ⟨x, g, h4, h5⟩ := h3 i n p a b; ⟨x, g, h4, s _ _ h5⟩⟩
end Pw
namespace Pw
theorem notPow_ten : Pm.NotPow 10 := fun c k hk e => by
  have c2 : 2 ≤ c := pow_base2 (by omega) (by decide) e
  have h1 : c ^ 2 ≤ c ^ k := Nat.pow_le_pow_right (by omega) hk
  have c3 : c < 4 := by
    refine Nat.lt_of_not_le fun h => ?_
    have := Nat.pow_le_pow_left h 2
    omega
  have hk4 : k < 4 := by
    refine Nat.lt_of_not_le fun h => ?_
    have h2 := Nat.pow_le_pow_left c2 k
    have h3 : (2 : Nat) ^ 4 ≤ 2 ^ k := Nat.pow_le_pow_right (by decide) h
    omega
  have hc : c = 2 ∨ c = 3 := by omega
  have hkk : k = 2 ∨ k = 3 := by omega
  rcases hc with rfl | rfl <;> rcases hkk with rfl | rfl <;> exact absurd e (by decide)
theorem gw_ten : GW 10000000000000000000000000000000000000000 10 40 := .inr (.inr ⟨by decide, notPow_ten, by decide, by decide⟩)
end Pw

namespace Pw
open PySem PySem.Spec PyProof.Rows L2 SX TL
/-! ### x in t, t a tuple of data -/
def rInDT (K : PySem.W.Frag) : R2 := fun x y H Q => ∃ d ds, Dp K H x d ∧ Dp K H y (.tuple ds) ∧ SeqAt.shaped d = true ∧ SeqAt.shaped (.tuple ds) = true ∧ Q (.bl (ds.any fun z => PyData.eqv z d)) H
def rNotInDT (K : PySem.W.Frag) : R2 := fun x y H Q => ∃ d ds, Dp K H x d ∧ Dp K H y (.tuple ds) ∧ SeqAt.shaped d = true ∧ SeqAt.shaped (.tuple ds) = true ∧ Q (.bl (!ds.any fun z => PyData.eqv z d)) H
theorem room65 {k : Nat} {A : Around} (hr : Room k A) : A.units + 65 < cLine := by have := hr.un; omega
theorem op_inDT {X : Cx} {k : Nat} (hr : Room k X.A) : OpR X (compareOp .In) (rInDT X.K) := by
  intro pins s σ H x y v u Q I rx ry h
  obtain ⟨d, ds, hd, he, sd, se, q⟩ := h
  obtain ⟨as, r1⟩ := Dp.reads I d x v hd rx
  obtain ⟨bs, r2⟩ := Dp.reads I (.tuple ds) y u he ry
  exact SeqAt.in_tuple_reads r2 r1 (SeqAt.canLay_of_shaped se) (SeqAt.canLay_of_shaped sd) (room_in_shaped sd (room65 hr)) ⟨.bl _, H, I, rfl, q⟩
theorem op_notInDT {X : Cx} {k : Nat} (hr : Room k X.A) : OpR X (compareOp .NotIn) (rNotInDT X.K) := by
  intro pins s σ H x y v u Q I rx ry h
  obtain ⟨d, ds, hd, he, sd, se, q⟩ := h
  obtain ⟨as, r1⟩ := Dp.reads I d x v hd rx
  obtain ⟨bs, r2⟩ := Dp.reads I (.tuple ds) y u he ry
  exact SeqAt.notIn_tuple_reads r2 r1 (SeqAt.canLay_of_shaped se) (SeqAt.canLay_of_shaped sd) (room_in_shaped sd (room65 hr)) ⟨.bl _, H, I, rfl, q⟩
def rTupleOf (K : PySem.W.Frag) : List V → Hp → VK → Prop := fun xs H Q => ∃ p ys, xs = [.ref p] ∧ ((SqL K H p ys ∧ ∀ l, H l = none → Q (.ref l) (upd H l (.tup ys))) ∨ (SqT K H p ys ∧ Q (.ref p) H))
theorem cr_tupleOf {X : Cx} : CallR X (.type "tuple") (rTupleOf X.K) := call_tuple_of
def rListOf (K : PySem.W.Frag) : List V → Hp → VK → Prop := fun xs H Q => ∃ p ys, xs = [.ref p] ∧ (SqL K H p ys ∨ SqT K H p ys) ∧ ∀ l, H l = none → Q (.ref l) (upd H l (.lst ys))
theorem cr_listOf {X : Cx} : CallR X (.type "list") (rListOf X.K) := call_list_of
theorem r_tupleOf {K : PySem.W.Frag} {H : Hp} {Q : VK} {p : Addr} {ys : List V} (h : SqL K H p ys) (q : ∀ l H', H l = none → H' l = some (.tup ys) → Same H H' → Q (.ref l) H') : rTupleOf K [.ref p] H Q := ⟨p, ys, rfl, .inl ⟨h, fun l hl => q l _ hl upd_same (same_new hl)⟩⟩
theorem r_listOfT {K : PySem.W.Frag} {H : Hp} {Q : VK} {p : Addr} {ys : List V} (h : SqT K H p ys) (q : NewC Q ys H) : rListOf K [.ref p] H Q := ⟨p, ys, rfl, .inr h, q⟩
/-! ### pairs of naturals -/
def vp (w : Nat × Nat) : HO := .tup [.int (w.1 : Int), .int (w.2 : Int)]
def dpr (w : Nat × Nat) : PyData := .tuple [.int (w.1 : Int), .int (w.2 : Int)]
/-- the rows at ps are the pairs ws -/
def PairsAt (H : Hp) (ps : List Addr) (ws : List (Nat × Nat)) : Prop := ps.length = ws.length ∧ ∀ (i : Nat) (a : Addr) (w : Nat × Nat), ps[i]? = some a → ws[i]? = some w → H a = some (vp w)
theorem PairsAt.same {H H' : Hp} {ps : List Addr} {ws : List (Nat × Nat)} (h : PairsAt H ps ws) (s : Same H H') : PairsAt H' ps ws := ⟨h.1, fun i a w x y => s _ _ (h.2 i a w x y)⟩
theorem PairsAt.nil {H : Hp} : PairsAt H [] [] := ⟨rfl, fun i a w h => by simp at h⟩
theorem PairsAt.push {H' : Hp} {ps : List Addr} {ws : List (Nat × Nat)} {p : Addr} {w : Nat × Nat} (h : PairsAt H' ps ws) (hp : H' p = some (vp w)) : PairsAt H' (ps ++ [p]) (ws ++ [w]) := by
  refine ⟨by rw [List.length_append, List.length_append, h.1]; rfl, fun i a w' x y => ?_⟩
  rcases Nat.lt_or_ge i ps.length with z | z
  · rw [List.getElem?_append_left z] at x
    rw [List.getElem?_append_left (by rw [← h.1]; exact z)] at y
    exact h.2 i a w' x y
  · rw [List.getElem?_append_right z] at x
    rw [List.getElem?_append_right (by rw [← h.1]; exact z), ← h.1] at y
    have hi : i - ps.length = 0 := by
      have := (List.getElem?_eq_some_iff.mp x).1
      simp at this
      omega
    rw [hi] at x y
    cases x
    cases y
    exact hp
theorem PairsAt.upd {H : Hp} {ps : List Addr} {ws : List (Nat × Nat)} {l : Addr} {xs : List V} {o : HO} (h : PairsAt H ps ws) (hl : H l = some (.lst xs)) : PairsAt (L2.upd H l o) ps ws :=
  ⟨h.1, fun i a w x y => by
    have := h.2 i a w x y
    rw [upd_ne (ne_of this hl (by intro z; cases z))]
    exact this⟩
theorem PairsAt.tail {H : Hp} {p : Addr} {ps : List Addr} {w : Nat × Nat} {ws : List (Nat × Nat)} (h : PairsAt H (p :: ps) (w :: ws)) : H p = some (vp w) ∧ PairsAt H ps ws :=
  ⟨h.2 0 p w rfl rfl, by have := h.1; simpa using this, fun i a w' x y => h.2 (i + 1) a w' (by simpa using x) (by simpa using y)⟩
theorem PairsAt.dp {K : PySem.W.Frag} {H : Hp} : ∀ {ps : List Addr} {ws : List (Nat × Nat)}, PairsAt H ps ws → DpAll K H (ps.map V.ref) (ws.map dpr)
  | [], [], _ => .nil
  | [], _ :: _, h => by have := h.1; simp at this
  | _ :: _, [], h => by have := h.1; simp at this
  | p :: ps, w :: ws, h => .cons (.tup (SqT.of h.tail.1) (.cons (.int _) (.cons (.int _) .nil))) (PairsAt.dp h.tail.2)
theorem dpr_lay (w : Nat × Nat) : (dpr w).canLay0 = true := by simp [dpr, PyData.canLay0, PyData.canLayAll0]
theorem dpr_depth (w : Nat × Nat) : (dpr w).depth = 1 := by simp [dpr, PyData.depth, PyData.depthAll]
theorem dprs_lay : ∀ ws : List (Nat × Nat), PyData.canLayAll0 (ws.map dpr) = true
  | [] => by simp only [List.map_nil, PyData.canLayAll0]
  | w :: ws => by simp only [List.map_cons, PyData.canLayAll0, dpr_lay, dprs_lay ws, Bool.and_self]
theorem dprs_depth : ∀ ws : List (Nat × Nat), PyData.depthAll (ws.map dpr) ≤ 1
  | [] => by simp only [List.map_nil, PyData.depthAll]; omega
  | w :: ws => by
    simp only [List.map_cons, PyData.depthAll, dpr_depth]
    have := dprs_depth ws
    omega
theorem dpr_shaped (w : Nat × Nat) : SeqAt.shaped (dpr w) = true := by
  unfold SeqAt.shaped
  rw [dpr_lay, dpr_depth]
  rfl
theorem dprs_shapedT (ws : List (Nat × Nat)) : SeqAt.shaped (.tuple (ws.map dpr)) = true := by
  unfold SeqAt.shaped
  have h := dprs_depth ws
  simp only [PyData.canLay0, PyData.depth, dprs_lay, Bool.true_and, decide_eq_true_eq]
  exact decide_eq_true (Nat.le_trans (Nat.succ_le_succ h) (show 2 ≤ 64 by decide))
theorem dprs_shapedL (ws : List (Nat × Nat)) : SeqAt.shaped (.list (ws.map dpr)) = true := by
  unfold SeqAt.shaped
  have h := dprs_depth ws
  simp only [PyData.canLay0, PyData.depth, dprs_lay, Bool.true_and, decide_eq_true_eq]
  exact decide_eq_true (Nat.le_trans (Nat.succ_le_succ h) (show 2 ≤ 64 by decide))
theorem dpr_eqv (z w : Nat × Nat) : PyData.eqv (dpr z) (dpr w) = decide (z = w) := by
  have h := eqv_ints [(z.1 : Int), (z.2 : Int)] [(w.1 : Int), (w.2 : Int)]
  have e : PyData.eqv (dpr z) (dpr w) = PyData.eqvAll (List.map PyData.int [(z.1 : Int), (z.2 : Int)]) (List.map PyData.int [(w.1 : Int), (w.2 : Int)]) := by
    simp only [dpr, PyData.eqv, List.map_cons, List.map_nil]
  rw [e, h]
  obtain ⟨a, b⟩ := z
  obtain ⟨c, d⟩ := w
  refine decide_eq_decide.mpr ⟨fun z => ?_, fun z => by cases z; rfl⟩
  have z1 : (a : Int) = c := (List.cons.inj z).1
  have z2 : (b : Int) = d := (List.cons.inj (List.cons.inj z).2).1
  rw [show a = c by omega, show b = d by omega]
theorem dprs_eqv : ∀ zs ws : List (Nat × Nat), PyData.eqvAll (zs.map dpr) (ws.map dpr) = decide (zs = ws)
  | [], [] => by simp [PyData.eqvAll]
  | [], _ :: _ => by simp [PyData.eqvAll]
  | _ :: _, [] => by simp [PyData.eqvAll]
  | z :: zs, w :: ws => by
    simp only [List.map_cons, PyData.eqvAll, dpr_eqv, dprs_eqv zs ws]
    by_cases h1 : z = w <;> by_cases h2 : zs = ws <;> simp [h1, h2]
section
variable {K : PySem.W.Frag} {H : Hp} {Q : VK} {p q : Addr} {ps qs : List Addr} {zs ws : List (Nat × Nat)}
theorem r_eqPT (hp : SqT K H p (ps.map V.ref)) (hz : PairsAt H ps zs) (hq : SqT K H q (qs.map V.ref)) (hw : PairsAt H qs ws) (k : Q (.bl (decide (zs = ws))) H) : rEqD K (.ref p) (.ref q) H Q :=
  ⟨.tuple (zs.map dpr), .tuple (ws.map dpr), .tup hp hz.dp, .tup hq hw.dp, dprs_shapedT zs, dprs_shapedT ws, by rw [show PyData.eqv (.tuple (zs.map dpr)) (.tuple (ws.map dpr)) = decide (zs = ws) from by simp only [PyData.eqv, dprs_eqv]]; exact k⟩
theorem r_nePT (hp : SqT K H p (ps.map V.ref)) (hz : PairsAt H ps zs) (hq : SqT K H q (qs.map V.ref)) (hw : PairsAt H qs ws) (k : Q (.bl (!decide (zs = ws))) H) : rNeD K (.ref p) (.ref q) H Q :=
  ⟨.tuple (zs.map dpr), .tuple (ws.map dpr), .tup hp hz.dp, .tup hq hw.dp, dprs_shapedT zs, dprs_shapedT ws, by rw [show PyData.eqv (.tuple (zs.map dpr)) (.tuple (ws.map dpr)) = decide (zs = ws) from by simp only [PyData.eqv, dprs_eqv]]; exact k⟩
theorem r_eqPL (hp : SqL K H p (ps.map V.ref)) (hz : PairsAt H ps zs) (hq : SqL K H q (qs.map V.ref)) (hw : PairsAt H qs ws) (k : Q (.bl (decide (zs = ws))) H) : rEqD K (.ref p) (.ref q) H Q :=
  ⟨.list (zs.map dpr), .list (ws.map dpr), .lst hp hz.dp, .lst hq hw.dp, dprs_shapedL zs, dprs_shapedL ws, by rw [show PyData.eqv (.list (zs.map dpr)) (.list (ws.map dpr)) = decide (zs = ws) from by simp only [PyData.eqv, dprs_eqv]]; exact k⟩
theorem any_dpr (w : Nat × Nat) : ∀ ws : List (Nat × Nat), ((ws.map dpr).any fun z => PyData.eqv z (dpr w)) = decide (w ∈ ws)
  | [] => by simp
  | z :: ws => by
    rw [List.map_cons, List.any_cons, dpr_eqv, any_dpr w ws]
    by_cases h1 : z = w <;> by_cases h2 : w ∈ ws <;> simp [h1, h2]
    exact fun e => h1 e.symm
theorem r_inPT {w : Nat × Nat} (hx : H p = some (vp w)) (hq : SqT K H q (qs.map V.ref)) (hw : PairsAt H qs ws) (k : Q (.bl (decide (w ∈ ws))) H) : rInDT K (.ref p) (.ref q) H Q :=
  ⟨dpr w, ws.map dpr, .tup (SqT.of hx) (.cons (.int _) (.cons (.int _) .nil)), .tup hq hw.dp, dpr_shaped w, dprs_shapedT ws, by rw [any_dpr]; exact k⟩
theorem r_ninPT {w : Nat × Nat} (hx : H p = some (vp w)) (hq : SqT K H q (qs.map V.ref)) (hw : PairsAt H qs ws) (k : Q (.bl (!decide (w ∈ ws))) H) : rNotInDT K (.ref p) (.ref q) H Q :=
  ⟨dpr w, ws.map dpr, .tup (SqT.of hx) (.cons (.int _) (.cons (.int _) .nil)), .tup hq hw.dp, dpr_shaped w, dprs_shapedT ws, by rw [any_dpr]; exact k⟩
end
/-! ### all ways -/
/-- the divisors of g among 2 .. i + 1 -/
def divs (g i : Nat) : List Nat := ((List.range i).map (2 + ·)).filter fun k => g % k == 0
def waysL (b g : Nat) : List (Nat × Nat) := (divs g (g - 1)).map fun k => (b ^ (g / k), k)
theorem divs_succ (g i : Nat) : divs g (i + 1) = if g % (2 + i) = 0 then divs g i ++ [2 + i] else divs g i := by
  unfold divs
  rw [List.range_succ, List.map_append, List.filter_append]
  by_cases h : g % (2 + i) = 0
  · rw [if_pos h]
    simp [h]
  · rw [if_neg h]
    simp [h]
theorem mem_divs {g i k : Nat} : k ∈ divs g i ↔ 2 ≤ k ∧ k < 2 + i ∧ k ∣ g := by
  unfold divs
  rw [List.mem_filter, List.mem_map]
  constructor
  · rintro ⟨⟨j, hj, rfl⟩, h⟩
    rw [List.mem_range] at hj
    exact ⟨by omega, by omega, Nat.dvd_of_mod_eq_zero (by simpa using h)⟩
  · rintro ⟨h1, h2, h3⟩
    exact ⟨⟨k - 2, by rw [List.mem_range]; omega, by omega⟩, by simpa using Nat.mod_eq_zero_of_dvd h3⟩
theorem divs_len (g i : Nat) : (divs g i).length ≤ i := by
  unfold divs
  have h := List.length_filter_le (fun k => g % k == 0) ((List.range i).map (2 + ·))
  rw [List.length_map, List.length_range] at h
  exact h
def spIsPower : Sp := fun vs H Q _ => ∃ n : Nat, vs = [.int (n : Int)] ∧ n < 2 ^ 190 ∧ ∀ (b g : Nat) (H' : Hp), GW n b g → Same H H' → Q (.bl (decide (1 < g))) H'
def spWays : Sp := fun vs H Q _ => ∃ n : Nat, vs = [.int (n : Int)] ∧ n < 2 ^ 190 ∧ ∀ (b g : Nat) (p : Addr) (ps : List Addr) (H' : Hp), GW n b g → g ≤ 200 → H p = none → Same H H' → H' p = some (.tup (ps.map V.ref)) → PairsAt H' ps (waysL b g) → Q (.ref p) H'
theorem GW.g_le {n b g : Nat} (h : GW n b g) (hn : n < 2 ^ 190) : g ≤ 190 := by
  rcases h with ⟨_, _, rfl⟩ | ⟨_, _, rfl⟩ | ⟨b2, _, _, e⟩
  · decide
  · decide
  · refine Nat.le_of_not_lt fun z => ?_
    have h1 : 2 ^ g ≤ b ^ g := Nat.pow_le_pow_left b2 g
    have h2 : (2 : Nat) ^ 190 ≤ 2 ^ g := Nat.pow_le_pow_right (by decide) (by omega)
    omega
theorem GW.b_lt {n b g : Nat} (h : GW n b g) (hn : n < 2 ^ 190) : b < 2 ^ 190 := by
  rcases h with ⟨_, rfl, _⟩ | ⟨_, rfl, _⟩ | ⟨b2, _, g1, e⟩
  · exact Nat.pow_pos (by decide)
  · exact Nat.one_lt_two_pow (by decide)
  · have : b ≤ b ^ g := Nat.le_self_pow (by omega) b
    omega
end Pw
namespace Pw
open PySem PySem.Spec PyProof.Rows L2 SX TL
theorem waysL_len (b g : Nat) : (waysL b g).length ≤ g := by
  unfold waysL
  rw [List.length_map]
  have := divs_len g (g - 1)
  omega
theorem waysL_mem {b g : Nat} {w : Nat × Nat} : w ∈ waysL b g ↔ 2 ≤ w.2 ∧ w.2 < 2 + (g - 1) ∧ w.2 ∣ g ∧ w.1 = b ^ (g / w.2) := by
  unfold waysL
  rw [List.mem_map]
  constructor
  · rintro ⟨k, hk, rfl⟩
    obtain ⟨h1, h2, h3⟩ := mem_divs.mp hk
    exact ⟨h1, h2, h3, rfl⟩
  · rintro ⟨h1, h2, h3, h4⟩
    exact ⟨w.2, mem_divs.mpr ⟨h1, h2, h3⟩, by rw [← h4]⟩
theorem waysL_empty {b g : Nat} : waysL b g = [] ↔ g ≤ 1 := by
  constructor
  · intro h
    refine Nat.le_of_not_lt fun z => ?_
    have : (b ^ (g / g), g) ∈ waysL b g := waysL_mem.mpr ⟨by omega, by omega, Nat.dvd_refl g, rfl⟩
    rw [h] at this
    cases this
  · intro h
    cases e : waysL b g with
    | nil => rfl
    | cons w r =>
      have : w ∈ waysL b g := by rw [e]; exact List.mem_cons_self ..
      obtain ⟨h1, h2, _⟩ := waysL_mem.mp this
      omega
theorem GW.pow {n b g : Nat} (h : GW n b g) : b ^ g = n := by
  rcases h with ⟨rfl, rfl, rfl⟩ | ⟨rfl, rfl, rfl⟩ | ⟨_, _, _, e⟩
  · rfl
  · rfl
  · exact e
theorem GW.pos {n b g : Nat} (h : GW n b g) : 1 ≤ g := by
  rcases h with ⟨rfl, rfl, rfl⟩ | ⟨rfl, rfl, rfl⟩ | ⟨_, _, e, _⟩ <;> omega
theorem r_iteB {c A B : Prop} [Decidable c] {b : Bool} (hb : b = decide c) (h1 : c → A) (h2 : ¬ c → B) : if b = true then A else B := by
  subst hb
  exact r_ite h1 h2
def spNumR : Sp := fun vs H Q _ => ∃ n : Nat, vs = [.int (n : Int)] ∧ n ≤ 10 ^ 40 ∧ ∀ H', Same H H' → Q (.bl true) H'
def spTwoR : Sp := fun vs H Q _ => ∃ (d c : Addr) (n : Nat), vs = [.ref d] ∧ DeckAt H d c n ∧ n ≤ 2 ^ 40 ∧ ∀ H', Keep d H H' → DeckAt H' d c (n + 4) → Q (.bl true) H'
end Pw

namespace SrtO
open PySem PyProof.Rows Srt
section
variable {prog : Program} {w : World} {A : Around} {E : Value → Shared → Prop} {s : Shared}
theorem collect_tup {l : Addr} {vs : List Value} {Q : List Value → Shared → Prop} (hl : IsTup s.heap l vs.toArray)
    (h : Q vs { s with heap := (s.heap.push (seqObj "list" #[] 0)).update s.heap.objs.size (Obj.mapSeq (· ++ vs.toArray)) }) (hsz : vs.length ≤ sizeLine) :
    wpAny (model prog w) A (collect (.ref l)) Q E s := by
  obtain ⟨o, ho, hc, n, hd⟩ := id hl
  unfold collect
  refine wpAny_bind (wpAny_runValue (codeAny_builtin F.entry_proto_collect ?_))
  show wpAny _ _ (do again (.builtin "list.__iadd__" ⟨[← newList [], .ref l], []⟩)) _ _ s
  refine wpAny_bind (wpAny_newList (wpAny_pure ⟨Code.quiet_builtin _ (by decide +kernel), codeAny_builtin F.entry_list_iadd ?_⟩))
  show wpAny _ _ (Builtin.List.listExtendWith (.ref s.heap.objs.size) (.ref l) (.ref s.heap.objs.size)) _ _ { s with heap := s.heap.push (seqObj "list" #[] 0) }
  unfold Builtin.List.listExtendWith
  have ho' : (s.heap.push (seqObj "list" #[] 0)).get? l = some o := Heap.get?_push_of_some _ ho
  refine wpAny_bind (wpAny_typeOf (T := "tuple") ⟨o, ho', hc⟩ ?_)
  have ht : (Value.type "tuple" == Value.type "tuple") = true := by rfl
  rw [if_pos (by rw [ht]; simp)]
  refine wpAny_bind (listItems_at ho' hd ?_)
  refine wpAny_bind (listItems_at (xs := #[]) (n := 0) (Heap.get?_push_size _ rfl) rfl ?_)
  rw [if_neg (by simp)]
  refine wpAny_bind (listUpdate_at (xs := #[]) (n := 0) (Heap.get?_push_size _ rfl) rfl ?_ (Nat.zero_le _) (by show (#[] ++ vs.toArray).size ≤ sizeLine + 1; simp only [Array.size_append, List.size_toArray, List.length_nil]; omega))
  refine wpAny_pure ?_
  show wpAny (model prog w) A (do
      let o ← load s.heap.objs.size
      match o.data with
      | .seq xs _ => pure xs.toList
      | _ => unsupported "internal:collect") Q E { s with heap := (s.heap.push (seqObj "list" #[] 0)).update s.heap.objs.size (Obj.mapSeq (· ++ vs.toArray)) }
  refine wpAny_bind (wpAny_load (get?_update_seq (Heap.get?_push_size _ rfl) _) ?_)
  show wpAny _ _ (pure ((#[] : Array Value) ++ vs.toArray).toList) Q E _
  rw [show ((#[] : Array Value) ++ vs.toArray).toList = vs by simp]
  exact wpAny_pure h
theorem sorted_ordT {l : Addr} {vs : List Value} {ltv : Value → Value → Bool} {Q : Value → Shared → Prop} (O : Swo ltv) (hl : IsTup s.heap l vs.toArray) (hz : vs.length ≤ sizeLine)
    (hS : 2 ≤ vs.length → ∀ (h₁ : Heap) (a : Addr), h₁.get? a = some (seqObj "list" vs.toArray 0) → (∀ b o, s.heap.get? b = some o → b ≠ a ∧ h₁.get? b = some o) → SortableO prog w A.in1.in1 { s with heap := h₁ } a vs ltv)
    (h : ∀ out : List Value, Srtd ltv out → Stb ltv out vs → Q (.ref (s.heap.objs.size + 1)) { s with heap := sortedAll s.heap vs out.toArray }) :
    wpAny (model prog w) A (call (.builtin "sorted") [.ref l]) Q E s := by
  refine Calls.call_function_entry kind_sorted plain_sorted entry_sorted (args_sorted1 _) ?_
  unfold Builtin.«sorted»
  refine wpAny_bind (m := checkCount "sorted" 1 1 _) (wpAny_pure ?_)
  refine wpAny_bind (collect_tup hl ?_ hz)
  refine wpAny_bind (wpAny_newList ?_ hz)
  have hsz : ((s.heap.push (seqObj "list" #[] 0)).update s.heap.objs.size (Obj.mapSeq (· ++ vs.toArray))).objs.size = s.heap.objs.size + 1 := by
    rw [Heap.size_update, size_push']
  have hoL : (((s.heap.push (seqObj "list" #[] 0)).update s.heap.objs.size (Obj.mapSeq (· ++ vs.toArray))).push (seqObj "list" vs.toArray 0)).get? (s.heap.objs.size + 1) = some (seqObj "list" vs.toArray 0) := by
    rw [← hsz]; exact Heap.get?_push_size _ rfl
  have keep : ∀ b o, s.heap.get? b = some o → b ≠ s.heap.objs.size + 1 ∧ (((s.heap.push (seqObj "list" #[] 0)).update s.heap.objs.size (Obj.mapSeq (· ++ vs.toArray))).push (seqObj "list" vs.toArray 0)).get? b = some o := fun b o q => by
    have hlt : b < s.heap.objs.size := Heap.lt_size q
    refine ⟨Nat.ne_of_lt (Nat.lt_succ_of_lt hlt), Heap.get?_push_of_some _ ?_⟩
    rw [Heap.get?_update_ne _ _ _ _ (Nat.ne_of_lt hlt)]
    exact Heap.get?_push_of_some _ q
  show wpAny _ _ _ _ _ { s with heap := ((s.heap.push (seqObj "list" #[] 0)).update s.heap.objs.size (Obj.mapSeq (· ++ vs.toArray))).push (seqObj "list" vs.toArray 0) }
  rw [hsz]
  refine wpAny_bind (wpAny_holding (wpAny_call_entry slot_list_sort ⟨_, hoL, rfl⟩ entry_list_sort (list_sort_ord O hoL hz (fun h2 => hS h2 _ _ hoL keep) fun out hs hb => ⟨_, rfl, ?_⟩) (args_list_sort _)))
  exact wpAny_pure ⟨_, rfl, h out hs hb⟩
theorem sorted_pairsOT {l : Addr} {vs : List Value} {k : Value → Int × Int} {Q : Value → Shared → Prop} (hl : IsTup s.heap l vs.toArray) (hz : vs.length ≤ sizeLine) (hp : ∀ v ∈ vs, IsPair s.heap v (k v).1 (k v).2)
    (h : ∀ (h' : Heap) (d : Addr) (out : List Value), Srtd (fun v u => lexB (k v) (k u)) out → Stb (fun v u => lexB (k v) (k u)) out vs → (∀ b o, s.heap.get? b = some o → h'.get? b = some o) → s.heap.objs.size ≤ d → (∃ n, h'.get? d = some (seqObj "list" out.toArray n)) → Q (.ref d) { s with heap := h' }) :
    wpAny (model prog w) A (call (.builtin "sorted") [.ref l]) Q E s := by
  refine sorted_ordT (swo_lex k) hl hz (fun h2 h₁ a ha kk => ?_) fun out hs hb => ?_
  · refine pairs_sortableO (s := { s with heap := h₁ }) (by omega) (fun v hm => (hp v hm).keeps fun b o e _ => (kk b o e).2) fun o e => ?_
    have e' : some o = some (seqObj "list" vs.toArray 0) := e.symm.trans ha
    cases e'
    intro c
    exact absurd (Value.type.inj c) (by decide)
  · exact h _ _ out hs hb (fun b o e => sortedAll_old e) (Nat.le_succ _) (sortedAll_at s.heap vs out.toArray)
end
end SrtO

namespace Pw
open PySem PySem.Spec PyProof.Rows L2 SX TL
/-! ### sorted of a tuple of pairs -/
def rSortedPT (K : PySem.W.Frag) : List V → Hp → VK → Prop := fun vs H Q => ∃ (a : Addr) (xs : List V) (k : V → Int × Int), vs = [V.ref a] ∧ SqT K H a xs ∧ (∀ x ∈ xs, ∃ t, x = V.ref t ∧ H t = some (.tup [.int (k x).1, .int (k x).2])) ∧
  ∀ ys p, SrtO.Srtd (ltP k) ys → SrtO.Stb (ltP k) ys xs → H p = none → Q (.ref p) (upd H p (.lst ys))
theorem cr_sortedPT {X : Cx} : CallR X (.builtin "sorted") (rSortedPT X.K) := by
  intro pins s σ H vs us Q I r h
  obtain ⟨a, xs, k, rfl, hs, hx, q⟩ := h
  obtain ⟨its, rv, hl, hz⟩ := I.tuple hs
  obtain ⟨u, rfl, ru⟩ := vals1 r
  obtain rfl : u = Value.ref a := ru
  obtain ⟨e1, e2⟩ := refs_back rv fun x m => by
    obtain ⟨t, e, _⟩ := hx x m
    exact ⟨t, e⟩
  refine SrtO.sorted_pairsOT (k := fun u => k (backV u)) hl (by rw [← rv.length]; exact hz) (fun v hv => ?_) fun h' d out h1 h2 kp hd hn => ?_
  · obtain ⟨t, rfl⟩ := e2 v hv
    have hm : V.ref t ∈ xs := by rw [e1]; exact List.mem_map.mpr ⟨_, hv, rfl⟩
    obtain ⟨t', e, ht⟩ := hx _ hm
    cases e
    obtain ⟨_, its2, r2, o, ho, hc, n, hd⟩ := I.hok _ _ ht
    obtain ⟨u1, u2, rfl, ri, rj⟩ := vals2 r2
    obtain ⟨t1, rfl⟩ := ri
    obtain ⟨t2, rfl⟩ := rj
    exact ⟨t, o, t1, t2, n, rfl, ho, hc, hd⟩
  · have h3 : ∀ u ∈ out, ∃ a, u = Value.ref a := fun u hu => e2 u (h2.perm.mem_iff.mp hu)
    obtain ⟨n, hn⟩ := hn
    have hb : SrtO.Stb (ltP k) (out.map backV) xs := by
      rw [e1]
      exact SrtO.Stb.map (ltP_swo k) backV h2
    refine ⟨.ref d, upd H d (.lst (out.map backV)), I.laid (t' := s.toks) kp hd ⟨?_, out, n, vals_back h3, hn⟩, rfl, q _ d (SrtO.srtd_map h1) hb (I.hok.fresh hd)⟩
    rw [hb.len]
    exact hz
/-- what stands at a place, as a pair -/
def kyH (H : Hp) : V → Int × Int
  | .ref a => match H a with
    | some (.tup [.int i, .int j]) => (i, j)
    | _ => (0, 0)
  | _ => (0, 0)
def kyN (H : Hp) (v : V) : Nat × Nat := ((kyH H v).1.toNat, (kyH H v).2.toNat)
theorem kyH_of {H : Hp} {a : Addr} {w : Nat × Nat} (h : H a = some (vp w)) : kyH H (.ref a) = ((w.1 : Int), (w.2 : Int)) := by
  show (match H a with
    | some (.tup [.int i, .int j]) => (i, j)
    | _ => ((0 : Int), (0 : Int))) = _
  rw [h]
  rfl
theorem kyN_of {H : Hp} {a : Addr} {w : Nat × Nat} (h : H a = some (vp w)) : kyN H (.ref a) = w := by
  unfold kyN
  rw [kyH_of h]
  rfl
theorem PairsAt.keys {H : Hp} : ∀ {ps : List Addr} {ws : List (Nat × Nat)}, PairsAt H ps ws → (ps.map V.ref).map (kyN H) = ws
  | [], [], _ => rfl
  | [], _ :: _, h => by have := h.1; simp at this
  | _ :: _, [], h => by have := h.1; simp at this
  | p :: ps, w :: ws, h => by
    rw [List.map_cons, List.map_cons, kyN_of h.tail.1, PairsAt.keys h.tail.2]
theorem PairsAt.mem {H : Hp} : ∀ {ps : List Addr} {ws : List (Nat × Nat)}, PairsAt H ps ws → ∀ a ∈ ps, ∃ w, H a = some (vp w)
  | [], _, _, a, m => by cases m
  | _ :: _, [], h, _, _ => by have := h.1; simp at this
  | p :: ps, w :: ws, h, a, m => by
    rcases List.mem_cons.mp m with rfl | m
    · exact ⟨w, h.tail.1⟩
    · exact PairsAt.mem h.tail.2 a m
/-- the pairs by their first, where the firsts are all different -/
def Asc (ws : List (Nat × Nat)) : Prop := ws.Pairwise fun a b => a.1 < b.1
theorem asc_uniq : ∀ {as bs : List (Nat × Nat)}, Asc as → Asc bs → (∀ x, x ∈ as ↔ x ∈ bs) → as = bs
  | [], [], _, _, _ => rfl
  | [], b :: bs, _, _, h => by have := (h b).mpr (List.mem_cons_self ..); cases this
  | a :: as, [], _, _, h => by have := (h a).mp (List.mem_cons_self ..); cases this
  | a :: as, b :: bs, ha, hb, h => by
    have ha' := List.pairwise_cons.mp ha
    have hb' := List.pairwise_cons.mp hb
    have e : a = b := by
      rcases List.mem_cons.mp ((h a).mp (List.mem_cons_self ..)) with e | m1
      · exact e
      · rcases List.mem_cons.mp ((h b).mpr (List.mem_cons_self ..)) with e | m2
        · exact e.symm
        · have h1 := hb'.1 a m1
          have h2 := ha'.1 b m2
          omega
    subst e
    refine congrArg (a :: ·) (asc_uniq ha'.2 hb'.2 fun x => ⟨fun m => ?_, fun m => ?_⟩)
    · rcases List.mem_cons.mp ((h x).mp (List.mem_cons_of_mem _ m)) with e | m'
      · subst e
        exact absurd (ha'.1 _ m) (Nat.lt_irrefl _)
      · exact m'
    · rcases List.mem_cons.mp ((h x).mpr (List.mem_cons_of_mem _ m)) with e | m'
      · subst e
        exact absurd (hb'.1 _ m) (Nat.lt_irrefl _)
      · exact m'
theorem r_sortedPT {K : PySem.W.Frag} {p : Addr} {ps : List Addr} {ws : List (Nat × Nat)} {H : Hp} {Q : VK} (hp : SqT K H p (ps.map V.ref)) (hw : PairsAt H ps ws) (hd : ws.Pairwise fun a b => a.1 ≠ b.1)
    (q : ∀ (D : Addr) (H' : Hp) (qs : List Addr) (zs : List (Nat × Nat)), H D = none → H' D = some (.lst (qs.map V.ref)) → Same H H' → PairsAt H' qs zs → zs.Perm ws → Asc zs → Q (.ref D) H') : rSortedPT K [.ref p] H Q := by
  refine ⟨p, ps.map V.ref, kyH H, rfl, hp, fun x m => ?_, fun ys D hs hb nD => ?_⟩
  · obtain ⟨a, m', rfl⟩ := List.mem_map.mp m
    obtain ⟨w, h⟩ := hw.mem a m'
    exact ⟨a, rfl, by rw [kyH_of h]; exact h⟩
  · have hy : ∀ y ∈ ys, ∃ a w, y = V.ref a ∧ H a = some (vp w) := fun y m => by
      obtain ⟨a, m', rfl⟩ := List.mem_map.mp (hb.perm.mem_iff.mp m)
      obtain ⟨w, h⟩ := hw.mem a m'
      exact ⟨a, w, rfl, h⟩
    obtain ⟨qs, rfl, hq⟩ : ∃ qs : List Addr, ys = qs.map V.ref ∧ PairsAt H qs ((qs.map V.ref).map (kyN H)) := by
      clear hs hb q
      induction ys with
      | nil => exact ⟨[], rfl, PairsAt.nil⟩
      | cons y ys ih =>
        obtain ⟨qs, rfl, hq⟩ := ih fun z m => hy z (List.mem_cons_of_mem _ m)
        obtain ⟨a, w, rfl, h⟩ := hy y (List.mem_cons_self ..)
        refine ⟨a :: qs, rfl, by rw [List.length_map, List.length_map], fun i b z e1 e2 => ?_⟩
        cases i with
        | zero =>
          cases e1
          rw [List.map_cons, List.map_cons, kyN_of h] at e2
          cases e2
          exact h
        | succ i => exact hq.2 i b z e1 e2
    have hperm : ((qs.map V.ref).map (kyN H)).Perm ws := by
      rw [← hw.keys]
      exact hb.perm.map _
    refine q D _ qs ((qs.map V.ref).map (kyN H)) nD upd_same (same_new nD) (hq.same (same_new nD)) hperm ?_
    have hne : ((qs.map V.ref).map (kyN H)).Pairwise fun a b => a.1 ≠ b.1 := (hperm.pairwise_iff fun h e => h e.symm).mpr hd
    have hle : ((qs.map V.ref).map (kyN H)).Pairwise fun a b => a.1 ≤ b.1 := by
      refine List.Pairwise.map _ (R := fun x y => (kyN H x).1 ≤ (kyN H y).1) (fun a b h => h) ?_
      refine List.Pairwise.imp_of_mem (R := fun x y => ltP (kyH H) y x = false) (fun {x y} mx my h => ?_) hs
      obtain ⟨a, w, rfl, ha⟩ := hy x mx
      obtain ⟨b, z, rfl, hb⟩ := hy y my
      have := SrtO.lexB_no.mp h
      rw [kyH_of ha, kyH_of hb] at this
      rw [kyN_of ha, kyN_of hb]
      simp only at this
      omega
    exact (hle.and hne).imp fun h => by omega
/-! ### a table of pairs -/
/-- the dict at d: at v the tuple of the pairs T v, or nothing where T v is empty -/
def DT (H : Hp) (d : Addr) (T : Nat → List (Nat × Nat)) (N : Nat) : Prop := ∃ kvs : List (Key × V), H d = some (.dK kvs) ∧ kvs.length ≤ N ∧
  ∀ v : Nat, (valV kvs (.inl (v : Int)) = none ∧ T v = []) ∨ ∃ (p : Addr) (ps : List Addr), valV kvs (.inl (v : Int)) = some (.ref p) ∧ H p = some (.tup (ps.map V.ref)) ∧ PairsAt H ps (T v)
theorem DT.same {H H' : Hp} {d : Addr} {T : Nat → List (Nat × Nat)} {N : Nat} (h : DT H d T N) (s : Same H H') : DT H' d T N := by
  obtain ⟨kvs, h1, h2, h3⟩ := h
  refine ⟨kvs, s _ _ h1, h2, fun v => ?_⟩
  rcases h3 v with h | ⟨p, ps, a, b, c⟩
  · exact .inl h
  · exact .inr ⟨p, ps, a, s _ _ b, c.same s⟩
theorem DT.isD {H : Hp} {d : Addr} {T : Nat → List (Nat × Nat)} {N : Nat} (h : DT H d T N) : IsD H d := by
  obtain ⟨kvs, h1, _⟩ := h
  exact .inl ⟨kvs, Rd.of h1⟩
theorem DT.get {H : Hp} {d z : Addr} {T : Nat → List (Nat × Nat)} {N v : Nat} {Q : VK} (h : DT H d T N) (hz : H z = some (.tup [])) (q : ∀ (p : Addr) (ps : List Addr), H p = some (.tup (ps.map V.ref)) → PairsAt H ps (T v) → Q (.ref p) H) :
    ∃ o, DGet H d (.int (v : Int)) o ∧ Q (o.getD (.ref z)) H := by
  obtain ⟨kvs, h1, _, h3⟩ := h
  refine ⟨valV kvs (.inl (v : Int)), DGet.k (k := .inl (v : Int)) h1, ?_⟩
  rcases h3 v with ⟨a, b⟩ | ⟨p, ps, a, b, c⟩
  · rw [a]
    exact q z [] hz (by rw [b]; exact PairsAt.nil)
  · rw [a]
    exact q p ps b c
theorem DT.put {H : Hp} {d p : Addr} {ps : List Addr} {ws : List (Nat × Nat)} {T : Nat → List (Nat × Nat)} {N v : Nat} {D : Hp → Prop} (h : DT H d T N) (hN : N < 10000) (hp : H p = some (.tup (ps.map V.ref))) (hw : PairsAt H ps ws)
    (q : ∀ H', DT H' d (fun u => if u = v then ws else T u) (N + 1) → D H') : ∃ H', DPut H d (.int (v : Int)) (.ref p) H' ∧ D H' := by
  obtain ⟨kvs, h1, h2, h3⟩ := h
  refine ⟨_, DPut.k (k := .inl (v : Int)) h1 (Nat.lt_of_le_of_lt h2 (Nat.lt_of_lt_of_le hN (by decide))), q _ ?_⟩
  have kp : ∀ {a : Addr} {xs : List V} {o : HO}, H a = some (.tup xs) → upd H d o a = some (.tup xs) := fun {a xs o} e => by
    rw [upd_ne (ne_of e h1 (by intro z; cases z))]
    exact e
  have kw : ∀ {ps : List Addr} {ws : List (Nat × Nat)} {o : HO}, PairsAt H ps ws → PairsAt (upd H d o) ps ws := fun {ps ws o} e => ⟨e.1, fun i a w x y => kp (e.2 i a w x y)⟩
  refine ⟨_, upd_same, Nat.le_trans (length_putK _ _ _) (Nat.add_le_add_right h2 1), fun u => ?_⟩
  by_cases e : u = v
  · subst e
    refine .inr ⟨p, ps, ?_, kp hp, ?_⟩
    · rw [valV_put, if_pos rfl]
    · show PairsAt _ ps (if u = u then ws else T u)
      rw [if_pos rfl]
      exact kw hw
  · have ne : ¬ (Sum.inl (u : Int) : Key) = .inl (v : Int) := fun z => e (by have := Sum.inl.inj z; omega)
    rcases h3 u with ⟨a, b⟩ | ⟨p', ps', a, b, c⟩
    · exact .inl ⟨by rw [valV_put, if_neg ne]; exact a, (if_neg e).trans b⟩
    · exact .inr ⟨p', ps', by rw [valV_put, if_neg ne]; exact a, kp b, by show PairsAt _ ps' (if u = v then ws else T u); rw [if_neg e]; exact kw c⟩
theorem DT.new {H : Hp} {d : Addr} (h : H d = some (.dK [])) : DT H d (fun _ => []) 0 := ⟨[], h, Nat.le_refl _, fun v => .inl ⟨rfl, rfl⟩⟩
def NewD (Q : VK) (H : Hp) : Prop := ∀ p, H p = none → Q (.ref p) (upd H p (.dK []))
end Pw

namespace Pw
open PySem PySem.Spec PyProof.Rows L2 SX TL
theorem GW.ex (n : Nat) : ∃ b g : Nat, GW n b g := by
  induction n using Nat.strongRecOn with
  | ind n ih =>
    by_cases h0 : n = 0
    · exact ⟨0, 1, .inl ⟨h0, rfl, rfl⟩⟩
    by_cases h1 : n = 1
    · exact ⟨1, 2, .inr (.inl ⟨h1, rfl, rfl⟩)⟩
    have n2 : 2 ≤ n := by omega
    by_cases h : Pm.NotPow n
    · exact ⟨n, 1, .inr (.inr ⟨n2, h, Nat.le_refl 1, Nat.pow_one n⟩)⟩
    · obtain ⟨c, k, hk, e⟩ : ∃ c k, 2 ≤ k ∧ c ^ k = n := Classical.byContradiction fun z => h fun c k hk e => z ⟨c, k, hk, e⟩
      have c2 : 2 ≤ c := pow_base2 (by omega) n2 e
      have cn : c < n := by
        rw [← e]
        have h1 : c ^ 1 < c ^ k := Nat.pow_lt_pow_right (by omega) (by omega)
        rwa [Nat.pow_one] at h1
      obtain ⟨b, g, hg⟩ := ih c cn
      rcases hg with ⟨z, _, _⟩ | ⟨z, _, _⟩ | ⟨b2, np, g1, eg⟩
      · omega
      · omega
      · refine ⟨b, g * k, .inr (.inr ⟨b2, np, ?_, by rw [Nat.pow_mul, eg, e]⟩)⟩
        have := Nat.mul_le_mul g1 (show 1 ≤ k by omega)
        omega
/-- e is an exponent of n just where it divides g -/
theorem GW.dvd {n b g e r : Nat} (h : GW n b g) (hn : 2 ≤ n) (he : 2 ≤ e) (hr : Pm.IsRoot n e r) : r ^ e = n ↔ e ∣ g := by
  rcases h with ⟨z, _, _⟩ | ⟨z, _, _⟩ | ⟨b2, np, g1, eg⟩
  · omega
  · omega
  · constructor
    · intro h
      exact (Pm.ways_of_pow b2 np g1 (by omega) (h.trans eg.symm)).1
    · intro hd
      have h2 : (b ^ (g / e)) ^ e = n := by rw [← Nat.pow_mul, Nat.div_mul_cancel hd, eg]
      have h3 : Pm.IsRoot n e (b ^ (g / e)) := by
        rw [← h2]
        exact root_pow (by omega)
      cases hr.uniq h3
      exact h2
theorem GW.base {n b g e r : Nat} (h : GW n b g) (hn : 2 ≤ n) (he : 2 ≤ e) (hr : r ^ e = n) : e ∣ g ∧ r = b ^ (g / e) := by
  rcases h with ⟨z, _, _⟩ | ⟨z, _, _⟩ | ⟨b2, np, g1, eg⟩
  · omega
  · omega
  · exact Pm.ways_of_pow b2 np g1 (by omega) (hr.trans eg.symm)
theorem GW.le2 {n b g : Nat} (h : GW n b g) (hn : 2 ≤ n) : 2 ^ g ≤ n := by
  rcases h with ⟨z, _, _⟩ | ⟨z, _, _⟩ | ⟨b2, np, g1, eg⟩
  · omega
  · omega
  · rw [← eg]
    exact Nat.pow_le_pow_left b2 g
/-- beyond g are no divisors -/
theorem divs_all {g : Nat} (hg : 1 ≤ g) : ∀ m : Nat, divs g (g - 1 + m) = divs g (g - 1)
  | 0 => rfl
  | m + 1 => by
    rw [show g - 1 + (m + 1) = g - 1 + m + 1 by omega, divs_succ, if_neg, divs_all hg m]
    intro h
    have := Nat.le_of_dvd (by omega) (Nat.dvd_of_mod_eq_zero h)
    omega
def spLawWays : Sp := fun vs H Q _ => ∃ n : Nat, vs = [.int (n : Int)] ∧ n < 2 ^ 133 ∧ ∀ (b g : Nat) (p : Addr) (ps : List Addr) (H' : Hp), GW n b g → H p = none → Same H H' → H' p = some (.tup (ps.map V.ref)) → PairsAt H' ps (waysL b g) → Q (.ref p) H'
def spRight : Sp := fun vs H Q _ => ∃ (n : Nat) (p : Addr) (ps : List Addr) (b g : Nat), vs = [.int (n : Int), .ref p] ∧ n < 2 ^ 133 ∧ GW n b g ∧ H p = some (.tup (ps.map V.ref)) ∧ PairsAt H ps (waysL b g) ∧ ∀ H', Same H H' → Q (.bl true) H'
end Pw
namespace Pw
open PySem PySem.Spec PyProof.Rows L2 SX TL
theorem room1 {k : Nat} {A : Around} (hr : Room k A) : A.units + 1 < cLine := by have := hr.un; omega
end Pw
namespace Pw
open PySem PySem.Spec PyProof.Rows L2 SX TL
theorem pg_tupB {X : Cx} {s : Shared} {H : Hp} {sc : Scope} {ev : Env} {fp : List Addr} {es : List Expr} {k : Nat} {pos : Pos} {t : TGs} {n : Nat} (hc : X.calm = true) (h : PGs (X.blk s H sc ev fp) es t)
    (hn : (assignEach es (X.blk s H sc ev fp).env).length = n := by rfl) (hst : (assignEach es (X.blk s H sc ev fp).env).findIdx? (·.1) = none := by rfl) : PG (X.blk s H sc ev fp) (.Tuple es k pos) (gTup X.K n t) :=
  pg_tup hc h hn hst
end Pw
namespace Pw
open PySem PySem.Spec PyProof.Rows L2 SX TL
section
variable {prog : Program} {w : World} {A : Around} {E : Value → Shared → Prop} {s : Shared}
theorem cat_tup0 {t b : Addr} {vs ws : List Value} {Q : Value → Shared → Prop} (ht : IsTup s.heap t vs.toArray) (hb : IsTup s.heap b ws.toArray) (hv : vs = []) (h : Q (.ref b) s) : wpAny (model prog w) A (binaryOp .Add (.ref t) (.ref b)) Q E s := by
  obtain ⟨⟨cls, dd, data, sl⟩, ho, hc, n, hd⟩ := id ht
  obtain ⟨⟨cls2, dd2, data2, sl2⟩, ho2, hc2, n2, hd2⟩ := id hb
  simp only at hc hd hc2 hd2
  subst hc hd hc2 hd2
  exact concat_meets ⟨_, ho, rfl⟩ ⟨_, ho2, rfl⟩ noFill_tuple_add seq_tuple_add PySem.F.slot_tuple_add PySem.F.entry_tuple_add (PySem.F.args_tuple_add_2 _ _)
    (tuple_addW0 t b vs.toArray ws.toArray n n2 dd dd2 sl sl2 (by simp [hv])) ⟨ho, ho2, h⟩
end
def rCatTA (K : PySem.W.Frag) : R2 := fun x y H Q => ∃ a b xs ys, x = .ref a ∧ y = .ref b ∧ SqT K H a xs ∧ SqT K H b ys ∧ ys ≠ [] ∧ xs.length + ys.length ≤ sizeLine ∧
  (xs = [] → Q (.ref b) H) ∧ (xs ≠ [] → ∀ p, H p = none → Q (.ref p) (upd H p (.tup (xs ++ ys))))
theorem op_catTA {X : Cx} : OpR X (binaryOp .Add) (rCatTA X.K) := by
  intro pins s σ H x y v u Q I rx ry h
  obtain ⟨a, b, xs, ys, rfl, rfl, ha, hb, hy, hz, q1, q2⟩ := h
  by_cases hx : xs = []
  · cases rx
    cases ry
    obtain ⟨its, r1, p1, _⟩ := I.tuple ha
    obtain ⟨its2, r2, p2, _⟩ := I.tuple hb
    exact cat_tup0 p1 p2 (r1.nil_iff.mpr hx) ⟨.ref b, H, I, rfl, q1 hx⟩
  · exact op_catT pins s σ H _ _ v u Q I rx ry ⟨a, b, xs, ys, rfl, rfl, ha, hb, hx, hz, fun z => absurd z hy, fun _ => q2 hx⟩
/-- rows of pairs put together -/
theorem PairsAt.app {H : Hp} {ps : List Addr} {ws : List (Nat × Nat)} {p : Addr} {w : Nat × Nat} (h : PairsAt H ps ws) (hp : H p = some (vp w)) : PairsAt H (ps ++ [p]) (ws ++ [w]) := h.push hp
theorem r_catTA {K : PySem.W.Frag} {H : Hp} {Q : VK} {a b p : Addr} {ps : List Addr} {ws : List (Nat × Nat)} {w : Nat × Nat} (ha : H a = some (.tup (ps.map V.ref))) (hw : PairsAt H ps ws) (hb : H b = some (.tup [.ref p])) (hp : H p = some (vp w)) (hl : ps.length ≤ 10000)
    (q : ∀ (c : Addr) (qs : List Addr) (H' : Hp), Same H H' → H' c = some (.tup (qs.map V.ref)) → PairsAt H' qs (ws ++ [w]) → Q (.ref c) H') : rCatTA K (.ref a) (.ref b) H Q := by
  refine ⟨a, b, _, _, rfl, rfl, SqT.of ha, SqT.of hb, by simp, ?_, fun z => ?_, fun _ l nl => ?_⟩
  · rw [List.length_map]
    exact Nat.le_trans (Nat.add_le_add_right hl 1) (by decide)
  · have e : ps = [] := List.map_eq_nil_iff.mp z
    subst e
    have e2 : ws = [] := List.length_eq_zero_iff.mp (by rw [← hw.1]; rfl)
    subst e2
    exact q b [p] H (Same.refl _) hb (PairsAt.push (ws := []) PairsAt.nil hp)
  · refine q l (ps ++ [p]) _ (same_new nl) ?_ ((hw.app hp).same (same_new nl))
    rw [upd_same, List.map_append]
    rfl
section
variable {td ty tx tv : TE} {σ : L2.St} {H : Hp} {Q : VK} {D : Ends}
theorem r_dget2 (h : td σ H fun x H1 => ∃ a, x = .ref a ∧ IsD H1 a ∧ ty σ H1 fun y H2 => tx σ H2 fun z H3 => ∃ o, DGet H3 a y o ∧ Q (o.getD z) H3) : tDGet2 td ty tx σ H Q := h
theorem r_dput (h : tv σ H fun v H1 => td σ H1 fun x H2 => ty σ H2 fun y H3 => ∃ a H4, x = .ref a ∧ DPut H3 a y v H4 ∧ D.nx σ H4) : sDPut td ty tv D σ H := h
theorem r_dnew (h : ∀ p H', H p = none → H' p = some (.dK []) → Same H H' → Q (.ref p) H') : tDNewK σ H Q := fun p hp => h p _ hp upd_same (same_new hp)
theorem r_dnew' (h : ∀ p, H p = none → Q (.ref p) (upd H p (.dK []))) : tDNewK σ H Q := h
end
/-! ### all powers below M, found base by base -/
structure TInv (T : Nat → List (Nat × Nat)) (M B E : Nat) : Prop where
  mem : ∀ v e c, (e, c) ∈ T v ↔ v < M ∧ 2 ≤ e ∧ c ^ e = v ∧ 2 ≤ c ∧ (c < B ∨ (c = B ∧ e < E))
  nodup : ∀ v, (T v).Nodup
theorem TInv.new (M : Nat) : TInv (fun _ => []) M 2 2 := ⟨fun v e c => ⟨fun h => (nomatch h), fun ⟨_, h1, _, h2, h3⟩ => by omega⟩, fun v => List.nodup_nil⟩
theorem TInv.push {T : Nat → List (Nat × Nat)} {M B E : Nat} (h : TInv T M B E) (b2 : 2 ≤ B) (e2 : 2 ≤ E) (hv : B ^ E < M) : TInv (fun u => if u = B ^ E then T (B ^ E) ++ [(E, B)] else T u) M B (E + 1) := by
  refine ⟨fun v e c => ?_, fun v => ?_⟩
  · by_cases z : v = B ^ E
    · subst z
      show (e, c) ∈ (if B ^ E = B ^ E then T (B ^ E) ++ [(E, B)] else T (B ^ E)) ↔ _
      rw [if_pos rfl, List.mem_append, h.mem]
      constructor
      · rintro (⟨h1, h2, h3, h4, h5⟩ | h5)
        · exact ⟨h1, h2, h3, h4, by omega⟩
        · have h6 : (e, c) = (E, B) := by simpa using h5
          cases h6
          exact ⟨hv, e2, rfl, b2, .inr ⟨rfl, by omega⟩⟩
      · rintro ⟨h1, h2, h3, h4, h5⟩
        by_cases w : c = B ∧ e = E
        · exact .inr (by rw [w.1, w.2]; exact List.mem_singleton.mpr rfl)
        · exact .inl ⟨h1, h2, h3, h4, by omega⟩
    · show (e, c) ∈ (if v = B ^ E then T (B ^ E) ++ [(E, B)] else T v) ↔ _
      rw [if_neg z, h.mem]
      constructor
      · rintro ⟨h1, h2, h3, h4, h5⟩
        exact ⟨h1, h2, h3, h4, by omega⟩
      · rintro ⟨h1, h2, h3, h4, h5⟩
        refine ⟨h1, h2, h3, h4, ?_⟩
        rcases h5 with h5 | ⟨h5, h6⟩
        · exact .inl h5
        · by_cases w : e = E
          · exact absurd (by rw [← h3, h5, w]) z
          · exact .inr ⟨h5, by omega⟩
  · by_cases z : v = B ^ E
    · subst z
      show (if B ^ E = B ^ E then T (B ^ E) ++ [(E, B)] else T (B ^ E)).Nodup
      rw [if_pos rfl]
      refine List.nodup_append.mpr ⟨h.nodup _, by simp, fun x hx y hy e => ?_⟩
      have hy2 : y = (E, B) := by simpa using hy
      rw [e, hy2] at hx
      have := (h.mem _ _ _).mp hx
      omega
    · show (if v = B ^ E then T (B ^ E) ++ [(E, B)] else T v).Nodup
      rw [if_neg z]
      exact h.nodup v
theorem TInv.next {T : Nat → List (Nat × Nat)} {M B E : Nat} (h : TInv T M B E) (b2 : 2 ≤ B) (hv : M ≤ B ^ E) : TInv T M (B + 1) 2 := by
  refine ⟨fun v e c => ?_, h.nodup⟩
  rw [h.mem]
  constructor
  · rintro ⟨h1, h2, h3, h4, h5⟩
    exact ⟨h1, h2, h3, h4, by omega⟩
  · rintro ⟨h1, h2, h3, h4, h5⟩
    refine ⟨h1, h2, h3, h4, ?_⟩
    rcases h5 with h5 | ⟨h5, h6⟩
    · by_cases w : c = B
      · refine .inr ⟨w, Nat.lt_of_not_le fun z => ?_⟩
        have := Nat.pow_le_pow_right (show 0 < B by omega) z
        rw [← w, h3, w] at this
        omega
      · exact .inl (by omega)
    · omega
theorem TInv.apart {T : Nat → List (Nat × Nat)} {M B E : Nat} (h : TInv T M B E) (v : Nat) : (T v).Pairwise fun a b => a.1 ≠ b.1 := by
  refine List.Pairwise.imp_of_mem (R := fun a b => a ≠ b) (fun {x y} mx my hne e => hne ?_) (h.nodup v)
  obtain ⟨a, b⟩ := x
  obtain ⟨c, d⟩ := y
  have e' : a = c := e
  subst e'
  have hx := (h.mem _ _ _).mp mx
  have hy := (h.mem _ _ _).mp my
  have : b = d := (Nat.pow_left_inj (show a ≠ 0 by omega)).mp (by rw [hx.2.2.1, hy.2.2.1])
  rw [this]
theorem divs_asc (g i : Nat) : (divs g i).Pairwise fun a b => a < b := by
  unfold divs
  refine List.Pairwise.filter _ (List.Pairwise.map _ (R := fun a b => a < b) (fun a b h => by show 2 + a < 2 + b; omega) List.pairwise_lt_range)
/-- what the table holds at v, sorted and turned, are all ways of v -/
theorem TInv.ways {T : Nat → List (Nat × Nat)} {M v b g : Nat} {zs : List (Nat × Nat)} (h : TInv T M 60 2) (hM : M ≤ 3100) (hv : v < M) (v2 : 2 ≤ v) (hgw : GW v b g) (hz : zs.Perm (T v)) (ha : Asc zs) : zs.map (fun z => (z.2, z.1)) = waysL b g := by
  have e : zs = (waysL b g).map fun z => (z.2, z.1) := by
    refine asc_uniq ha ?_ fun x => ?_
    · unfold Asc waysL
      rw [List.map_map]
      exact List.Pairwise.map _ (R := fun a b => a < b) (fun a b h => h) (divs_asc g (g - 1))
    · obtain ⟨e, c⟩ := x
      rw [hz.mem_iff, h.mem]
      constructor
      · rintro ⟨_, h2, h3, h4, h5⟩
        obtain ⟨h6, h7⟩ := hgw.base v2 h2 h3
        have h8 := Nat.le_of_dvd hgw.pos h6
        exact List.mem_map.mpr ⟨(c, e), waysL_mem.mpr ⟨h2, by show e < 2 + (g - 1); omega, h6, h7⟩, rfl⟩
      · intro hm
        obtain ⟨⟨c', e'⟩, hm2, he⟩ := List.mem_map.mp hm
        obtain ⟨rfl, rfl⟩ : e' = e ∧ c' = c := ⟨congrArg Prod.fst he, congrArg Prod.snd he⟩
        obtain ⟨h1, h2, h3, h4⟩ := waysL_mem.mp hm2
        have h1' : 2 ≤ e' := h1
        have h4' : c' = b ^ (g / e') := h4
        have hp : c' ^ e' = v := by
          rw [h4', ← Nat.pow_mul, Nat.div_mul_cancel h3]
          exact hgw.pow
        have c2 := pow_base2 (show 1 ≤ e' by omega) v2 hp
        refine ⟨hv, h1', hp, c2, .inl (Nat.lt_of_not_le fun z => ?_)⟩
        have h5 : c' ^ 2 ≤ c' ^ e' := Nat.pow_le_pow_right (by omega) h1'
        have h6 := Nat.pow_le_pow_left z 2
        omega
  rw [e, List.map_map]
  have : (fun z : Nat × Nat => (z.2, z.1)) ∘ (fun z : Nat × Nat => (z.2, z.1)) = id := rfl
  rw [this, List.map_id]
structure DuesW (H : Hp) (D : Addr) (xs : List Nat) (m : Nat) : Prop where
  ex : ∃ ps : List Addr, H D = some (.lst (ps.map V.ref)) ∧ ps.length = m ∧ ∀ (i n : Nat) (p : Addr), xs[i]? = some n → ps[i]? = some p → ∃ (b g : Nat) (qs : List Addr), GW n b g ∧ H p = some (.tup (qs.map V.ref)) ∧ PairsAt H qs (waysL b g)
theorem DuesW.same {H H' : Hp} {D : Addr} {xs : List Nat} {m : Nat} (d : DuesW H D xs m) (s : Same H H') : DuesW H' D xs m := by
  obtain ⟨ps, h1, h2, h3⟩ := d.ex
  exact ⟨ps, s _ _ h1, h2, fun i n p a b => let ⟨x, g, qs, h4, h5, h6⟩ := h3 i n p a b; ⟨x, g, qs, h4, s _ _ h5, h6.same s⟩⟩
theorem DuesW.push {H : Hp} {D p : Addr} {ys : List Nat} {i b g : Nat} {qs : List Addr} (d : DuesW H D (ys.take i) i) (hi : i < ys.length) (hgw : GW ys[i] b g) (hp : H p = some (.tup (qs.map V.ref))) (hP : PairsAt H qs (waysL b g)) :
    ∃ ps : List Addr, H D = some (.lst (ps.map V.ref)) ∧ ps.length = i ∧ DuesW (upd H D (.lst (ps.map V.ref ++ [V.ref p]))) D (ys.take (i + 1)) (i + 1) := by
  obtain ⟨ps, h1, h2, h3⟩ := d.ex
  refine ⟨ps, h1, h2, ps ++ [p], by rw [upd_same, List.map_append]; rfl, by rw [List.length_append, h2]; rfl, fun j n p' hj hp' => ?_⟩
  have kp : ∀ {a : Addr} {xs : List V} {o : HO}, H a = some (.tup xs) → upd H D o a = some (.tup xs) := fun {a xs o} e => by
    rw [upd_ne (ne_of e h1 (by intro z; cases z))]
    exact e
  rcases Nat.lt_trichotomy j i with z | z | z
  · rw [List.getElem?_append_left (by omega)] at hp'
    rw [List.getElem?_take, if_pos (by omega)] at hj
    obtain ⟨b', g', qs', h4, h5, h6⟩ := h3 j n p' (by rw [List.getElem?_take, if_pos z]; exact hj) hp'
    exact ⟨b', g', qs', h4, kp h5, h6.upd h1⟩
  · subst z
    rw [List.getElem?_append_right (by omega), h2, Nat.sub_self] at hp'
    rw [List.getElem?_take, if_pos (by omega), List.getElem?_eq_getElem hi] at hj
    cases hj
    cases hp'
    exact ⟨b, g, qs, hgw, kp hp, hP.upd h1⟩
  · rw [List.getElem?_take, if_neg (by omega)] at hj
    cases hj
end Pw
namespace Pw
open PySem PySem.Spec PyProof.Rows L2 SX TL
theorem DT.mono {H : Hp} {d : Addr} {T : Nat → List (Nat × Nat)} {N N' : Nat} (h : DT H d T N) (l : N ≤ N') : DT H d T N' := by
  obtain ⟨kvs, h1, h2, h3⟩ := h
  exact ⟨kvs, h1, Nat.le_trans h2 l, h3⟩
/-- what the table holds is short -/
theorem PairsAt.len_le {H : Hp} {ps : List Addr} {ws : List (Nat × Nat)} {n : Nat} (h : PairsAt H ps ws) (l : ws.length ≤ n) : ps.length ≤ n := by rw [h.1]; exact l
/-- each base has one exponent at a number at most -/
theorem TInv.len {T : Nat → List (Nat × Nat)} {M B E : Nat} (h : TInv T M B E) (hM : M ≤ 3100) (hB : B ≤ 60) (v : Nat) : (T v).length ≤ 1000 := by
  have hs : ∀ x ∈ T v, x ∈ (List.range 12).flatMap fun e => (List.range 61).map fun c => (e, c) := fun x m => by
    obtain ⟨e, c⟩ := x
    obtain ⟨h1, h2, h3, h4, h5⟩ := (h.mem _ _ _).mp m
    have he : e < 12 := by
      refine Nat.lt_of_not_le fun z => ?_
      have h6 : (2 : Nat) ^ 12 ≤ 2 ^ e := Nat.pow_le_pow_right (by decide) z
      have h7 : (2 : Nat) ^ e ≤ c ^ e := Nat.pow_le_pow_left h4 e
      omega
    refine List.mem_flatMap.mpr ⟨e, List.mem_range.mpr he, List.mem_map.mpr ⟨c, List.mem_range.mpr (by omega), rfl⟩⟩
  have hl := (h.nodup v).length_le_of_subset hs
  have e : ((List.range 12).flatMap fun e => (List.range 61).map fun c => (e, c)).length = 732 := by decide +kernel
  omega
end Pw
namespace Pw
open PySem PySem.Spec PyProof.Rows L2 SX TL
theorem DT.getx {H : Hp} {d z : Addr} {T : Nat → List (Nat × Nat)} {N : Nat} (h : DT H d T N) (v : Nat) (hz : H z = some (.tup [])) :
    ∃ (o : Option V) (p : Addr) (ps : List Addr), DGet H d (.int (v : Int)) o ∧ o.getD (.ref z) = .ref p ∧ H p = some (.tup (ps.map V.ref)) ∧ PairsAt H ps (T v) := by
  obtain ⟨o, h1, h2⟩ := h.get (v := v) (Q := fun x H' => ∃ (p : Addr) (ps : List Addr), x = .ref p ∧ H' p = some (.tup (ps.map V.ref)) ∧ PairsAt H' ps (T v)) hz fun p ps a b => ⟨p, ps, rfl, a, b⟩
  obtain ⟨p, ps, a, b, c⟩ := h2
  exact ⟨o, p, ps, h1, a, b, c⟩
end Pw

namespace Pw
open PySem PySem.Spec PyProof.Rows L2 SX TL
/-- a seed: what is left of the cell, whether it is a great one, how many were drawn, the cell's rest -/
structure SeedAt (H : Hp) (d : Addr) (n : Nat) : Prop where
  ex : ∃ a f t c : Int, H d = some (.lst [.int a, .int f, .int t, .int c]) ∧ 0 ≤ a ∧ 0 ≤ t ∧ t ≤ n ∧ 0 ≤ c ∧ c < 2 ^ 40
theorem SeedAt.mono {H : Hp} {d : Addr} {n n' : Nat} (D : SeedAt H d n) (h : n ≤ n') : SeedAt H d n' := by
  obtain ⟨a, f, t, c, h1, h2, h3, h4, h5⟩ := D.ex
  exact ⟨a, f, t, c, h1, h2, h3, by omega, h5⟩
theorem SeedAt.same {H H' : Hp} {d : Addr} {n : Nat} (D : SeedAt H d n) (s : Same H H') : SeedAt H' d n := by
  obtain ⟨a, f, t, c, h1, h2⟩ := D.ex
  exact ⟨a, f, t, c, s _ _ h1, h2⟩
theorem SeedAt.ne {H : Hp} {d p : Addr} {n : Nat} (D : SeedAt H d n) (hp : H p = none) : p ≠ d := by
  obtain ⟨a, f, t, c, h1, _⟩ := D.ex
  exact (ne_of_none h1 hp).symm
theorem SeedAt.upd {H : Hp} {d p : Addr} {n : Nat} {o : HO} (D : SeedAt H d n) (h : p ≠ d) : SeedAt (L2.upd H p o) d n := by
  obtain ⟨a, f, t, c, h1, h2⟩ := D.ex
  exact ⟨a, f, t, c, by rw [upd_ne (Ne.symm h)]; exact h1, h2⟩
def spSeed : Sp := fun vs H Q _ => ∃ cell : Int, vs = [.int cell] ∧ ∀ (d : Addr) (H' : Hp), H d = none → Same H H' → SeedAt H' d 0 → Q (.ref d) H'
def spDraw : Sp := fun vs H Q _ => ∃ (d : Addr) (most : Int) (n : Nat), vs = [.ref d, .int most] ∧ 0 < most ∧ most.natAbs < 2 ^ 8000 ∧ SeedAt H d n ∧ n ≤ 2 ^ 50 ∧
  ∀ (r : Int) (H' : Hp), 0 ≤ r → r < most → Keep d H H' → SeedAt H' d (n + 1) → Q (.int r) H'
def spFolded (K : PySem.W.Frag) : Sp := fun vs H Q _ => ∃ (a : Addr) (ns : List Int), vs = [.ref a] ∧ SqL K H a (ns.map V.int) ∧ ns.length ≤ 63 ∧ ∀ r : Int, Q (.int r) H
def spHRoot : Sp := fun vs H Q _ => ∃ n e : Nat, vs = [.int (n : Int), .int (e : Int)] ∧ n < 2 ^ 140 ∧ 1 ≤ e ∧ e ≤ 1000 ∧ ∀ r : Nat, Pm.IsRoot n e r → Q (.int (r : Int)) H
def spNumber8 : Sp := fun vs H Q _ => ∃ (d : Addr) (n : Nat), vs = [.ref d] ∧ SeedAt H d n ∧ n ≤ 2 ^ 47 ∧ ∀ (r : Nat) (H' : Hp), r ≤ 10 ^ 40 → Keep d H H' → SeedAt H' d (n + 50) → Q (.int (r : Int)) H'
end Pw

namespace Pm
theorem root_exi (n e : Nat) (he : 1 ≤ e) : ∃ r, IsRoot n e r := by
  have h : ∀ k, (∃ r, r ^ e ≤ n ∧ n < (r + 1) ^ e) ∨ k ^ e ≤ n := fun k => by
    induction k with
    | zero => exact .inr (by rw [Nat.zero_pow (by omega)]; exact Nat.zero_le _)
    | succ k ih =>
      rcases ih with h | h
      · exact .inl h
      · rcases Nat.lt_or_ge n ((k + 1) ^ e) with z | z
        · exact .inl ⟨k, h, z⟩
        · exact .inr z
  rcases h (n + 1) with h | h
  · exact h
  · have : n + 1 ≤ (n + 1) ^ e := Nat.le_self_pow (by omega) _
    omega
noncomputable def Rt (n e : Nat) : Nat := @dite _ (1 ≤ e) (Nat.decLe _ _) (fun h => Classical.choose (root_exi n e h)) fun _ => 0
theorem Rt_is {n e : Nat} (he : 1 ≤ e) : IsRoot n e (Rt n e) := by
  unfold Rt
  rw [dif_pos he]
  exact Classical.choose_spec (root_exi n e he)
theorem Rt_eq {n e r : Nat} (he : 1 ≤ e) (h : IsRoot n e r) : Rt n e = r := (Rt_is he).uniq h
theorem Rt_one {n e : Nat} (he : 1 ≤ e) (hn : 1 ≤ n) (h : n < 2 ^ e) : Rt n e = 1 := Rt_eq he ⟨by rw [Nat.one_pow]; exact hn, h⟩
/-- the count of the powers to n -/
noncomputable def cntP (n : Nat) : Nat := if n = 0 then 0 else 1 + S (fun m => I (2 ≤ m ∧ IsPow m)) (n + 1)
/-! ### the signs -/
def sgIn (n : Nat) : Nat → Nat × Int
  | 0 => (n, 1)
  | m + 1 => if (sgIn n m).1 % (2 + m) = 0 then ((sgIn n m).1 / (2 + m), if (sgIn n m).1 / (2 + m) % (2 + m) = 0 then 0 else 0 - (sgIn n m).2) else sgIn n m
def sgF : Nat → Int
  | 0 => 0
  | 1 => 1
  | n + 2 => (sgIn (n + 2) (n + 1)).2
/-- a second way to the same, for the kernel -/
def sumDv (g : Nat) : Nat → Int
  | 0 => 0
  | k + 1 => if 2 ≤ k ∧ k ∣ g then sumDv g k + sgF k else sumDv g k
def sgGo (n : Nat) : Nat → Nat → Nat → Int → Int
  | 0, _, _, s => s
  | f + 1, p, l, s => if l % p = 0 then sgGo n f (p + 1) (l / p) (if l / p % p = 0 then 0 else 0 - s) else sgGo n f (p + 1) l s
theorem sgGo_eq (n : Nat) : ∀ f m : Nat, sgGo n f (2 + m) (sgIn n m).1 (sgIn n m).2 = (sgIn n (m + f)).2
  | 0, m => rfl
  | f + 1, m => by
    have h := sgGo_eq n f (m + 1)
    rw [show m + (f + 1) = m + 1 + f by omega, ← h]
    show (if (sgIn n m).1 % (2 + m) = 0 then sgGo n f (2 + m + 1) ((sgIn n m).1 / (2 + m)) (if (sgIn n m).1 / (2 + m) % (2 + m) = 0 then 0 else 0 - (sgIn n m).2) else sgGo n f (2 + m + 1) (sgIn n m).1 (sgIn n m).2) = _
    have e : sgIn n (m + 1) = if (sgIn n m).1 % (2 + m) = 0 then ((sgIn n m).1 / (2 + m), if (sgIn n m).1 / (2 + m) % (2 + m) = 0 then 0 else 0 - (sgIn n m).2) else sgIn n m := rfl
    rw [e]
    by_cases z : (sgIn n m).1 % (2 + m) = 0
    · rw [if_pos z, if_pos z]; rfl
    · rw [if_neg z, if_neg z]; rfl
def sgK : Nat → Int
  | 0 => 0
  | 1 => 1
  | n + 2 => sgGo (n + 2) (n + 1) 2 (n + 2) 1
theorem sgK_eq : ∀ n, sgK n = sgF n
  | 0 => rfl
  | 1 => rfl
  | n + 2 => by
    have h := sgGo_eq (n + 2) (n + 1) 0
    rw [Nat.zero_add] at h
    exact h
def sgTab : List Int := (List.range 141).map sgK
def sumTab (t : List Int) (g : Nat) : Nat → Int
  | 0 => 0
  | k + 1 => sumTab t g k + (if 2 ≤ k ∧ g % k = 0 then t.getD k 0 else 0)
def okTab : Bool := let t := sgTab; (List.range 141).all fun g => decide (g < 2) || decide (sumTab t g 141 = -1)
theorem okTab_true : okTab = true := by decide +kernel
theorem sumTab_eq (g : Nat) : ∀ k : Nat, k ≤ 141 → sumTab sgTab g k = SI (fun e => if 2 ≤ e ∧ e ∣ g then sgF e else 0) k
  | 0, _ => rfl
  | k + 1, h => by
    show sumTab sgTab g k + (if 2 ≤ k ∧ g % k = 0 then sgTab.getD k 0 else 0) = SI _ k + (if 2 ≤ k ∧ k ∣ g then sgF k else 0)
    rw [sumTab_eq g k (by omega)]
    have e : sgTab.getD k 0 = sgF k := by
      unfold sgTab
      rw [List.getD_eq_getElem?_getD, List.getElem?_map, List.getElem?_range (by omega)]
      exact sgK_eq k
    by_cases z : 2 ≤ k ∧ k ∣ g
    · rw [if_pos z, if_pos ⟨z.1, Nat.mod_eq_zero_of_dvd z.2⟩, e]
    · rw [if_neg z, if_neg fun w => z ⟨w.1, Nat.dvd_of_mod_eq_zero w.2⟩]
theorem signs_ok : Signs sgF 141 := fun g g2 gK => by
  have h := okTab_true
  unfold okTab at h
  have h2 := List.all_eq_true.mp h g (List.mem_range.mpr gK)
  have h3 : sumTab sgTab g 141 = -1 := by
    rcases Bool.or_eq_true _ _ ▸ h2 with w | w
    · exact absurd (of_decide_eq_true w) (by omega)
    · exact of_decide_eq_true w
  rw [← sumTab_eq g 141 (Nat.le_refl _)]
  exact h3
/-- in and out by the exponents below E, and what it comes to -/
noncomputable def inOut (n E : Nat) : Int := 1 - SI (fun e => if 2 ≤ e then sgF e * ((Rt n e - 1 : Nat) : Int) else 0) E
theorem inOut_end {n E : Nat} (hn : 1 ≤ n) (h : n < 2 ^ E) (hE : 2 ≤ E) (hE2 : E ≤ 141) (h141 : n < 2 ^ 141) : inOut n E = (cntP n : Int) := by
  have up : ∀ d : Nat, inOut n (E + d) = inOut n E := fun d => by
    induction d with
    | zero => rfl
    | succ d ih =>
      rw [← ih]
      show 1 - (SI _ (E + d) + (if 2 ≤ E + d then sgF (E + d) * ((Rt n (E + d) - 1 : Nat) : Int) else 0)) = 1 - SI _ (E + d)
      have h2 : Rt n (E + d) = 1 := Rt_one (by omega) hn (Nat.lt_of_lt_of_le h (Nat.pow_le_pow_right (by decide) (by omega)))
      rw [h2, if_pos (by omega)]
      simp
  rw [← up (141 - E), show E + (141 - E) = 141 by omega]
  unfold inOut
  rw [in_out (n := n) (K := 141) h141 signs_ok fun e e2 _ => Rt_is (by omega)]
  unfold cntP
  rw [if_neg (by omega)]
  push_cast
  omega
theorem sgIn_b (n : Nat) : ∀ m, (sgIn n m).2.natAbs ≤ 1
  | 0 => Nat.le_refl 1
  | m + 1 => by
    have ih := sgIn_b n m
    have e : sgIn n (m + 1) = if (sgIn n m).1 % (2 + m) = 0 then ((sgIn n m).1 / (2 + m), if (sgIn n m).1 / (2 + m) % (2 + m) = 0 then 0 else 0 - (sgIn n m).2) else sgIn n m := rfl
    rw [e]
    by_cases z : (sgIn n m).1 % (2 + m) = 0
    · rw [if_pos z]
      by_cases w : (sgIn n m).1 / (2 + m) % (2 + m) = 0
      · show (if (sgIn n m).1 / (2 + m) % (2 + m) = 0 then (0 : Int) else 0 - (sgIn n m).2).natAbs ≤ 1
        rw [if_pos w]; decide
      · show (if (sgIn n m).1 / (2 + m) % (2 + m) = 0 then (0 : Int) else 0 - (sgIn n m).2).natAbs ≤ 1
        rw [if_neg w]; omega
    · rw [if_neg z]; exact ih
theorem sgF_b : ∀ n, (sgF n).natAbs ≤ 1
  | 0 => by decide
  | 1 => by decide
  | n + 2 => sgIn_b _ _
theorem inOut_succ {n E r : Nat} (hE : 2 ≤ E) (hr : IsRoot n E r) (h1 : 1 ≤ r) : inOut n (E + 1) = inOut n E - sgF E * ((r : Int) - 1) := by
  show 1 - (SI _ E + (if 2 ≤ E then sgF E * ((Rt n E - 1 : Nat) : Int) else 0)) = 1 - SI _ E - _
  rw [if_pos hE, Rt_eq (by omega) hr, show ((r - 1 : Nat) : Int) = (r : Int) - 1 by omega]
  omega
end Pm
namespace Pw
open PySem PySem.Spec PyProof.Rows L2 SX TL
def sgRow (i : Nat) : List Int := (List.range 142).map fun j => if j < 2 + i then Pm.sgF j else 0
theorem sgRow_at {i E : Nat} (h : E < 2 + i) (h2 : E < 142) : (sgRow i)[E]? = some (Pm.sgF E) := by
  unfold sgRow
  rw [List.getElem?_map, List.getElem?_range h2, Option.map_some, if_pos h]
theorem sgRow_set {i : Nat} (h : i < 139) : (sgRow i).set (2 + i) (Pm.sgF (2 + i)) = sgRow (i + 1) := by
  refine List.ext_getElem? fun j => ?_
  unfold sgRow
  rw [List.getElem?_set, List.length_map, List.length_range]
  by_cases z : 2 + i = j
  · subst z
    rw [if_pos rfl, if_pos (by omega), List.getElem?_map, List.getElem?_range (by omega), Option.map_some, if_pos (by omega)]
  · rw [if_neg z, List.getElem?_map, List.getElem?_map]
    by_cases w : j < 142
    · rw [List.getElem?_range w, Option.map_some, Option.map_some]
      by_cases u : j < 2 + i
      · rw [if_pos u, if_pos (by omega)]
      · rw [if_neg u, if_neg (by omega)]
    · rw [List.getElem?_eq_none (by rw [List.length_range]; omega)]
      rfl
def spSigns : Sp := fun vs H Q _ => vs = [.int 140] ∧ ∀ (p : Addr) (H' : Hp), H p = none → Same H H' → H' p = some (.lst ((sgRow 139).map V.int)) → Q (.ref p) H'
def spCount8 : Sp := fun vs H Q _ => ∃ (z : Int) (p : Addr), vs = [.int z, .ref p] ∧ z < 2 ^ 133 ∧ H p = some (.lst ((sgRow 139).map V.int)) ∧ Q (.int (Pm.cntP z.toNat : Nat)) H
end Pw

namespace Pw
open PySem PySem.Spec PyProof.Rows L2 SX TL
/-! ### sum of a tuple of ints -/
section
variable {prog : Program} {w : World} {A : Around} {E : Value → Shared → Prop} {s : Shared} {l : Addr} {its : List Value} {ns : List Int} {Q : Value → Shared → Prop}
theorem sum_rawT (hh : A.handled = none) (hl : IsTup s.heap l its.toArray) (hi : IntsAre its ns)
    (h : ∀ h' tk t', (∀ b o, s.heap.get? b = some o → h'.get? b = some o) → Q (.int ns.sum t') { s with heap := h', toks := tk }) : wpAny (model prog w) A (call (.builtin "sum") [.ref l]) Q E s := by
  obtain ⟨xs, e⟩ := hi.allInts.items
  have hn : numsOf (intItems xs).toList = ns := by rw [← e]; exact hi.numsOf
  rw [nums_intItems] at hn
  rw [e] at hl
  have ht : s.heap.IsTuple l (intItems xs) := hl
  have hlt : l < s.heap.objs.size := by obtain ⟨_, e, _⟩ := ht; exact Heap.lt_size e
  refine PySem.call_sum_walkG (wpAny_pyIter_tuple ht ⟨_, _, _, _, _, _, numAt xs, rfl, Walks.tuple (A := A.in1) hh _ l (Nat.ne_of_lt hlt) (intItems xs), ⟨⟨_, Heap.get?_push_size _ rfl, rfl, rfl⟩, ht.push _⟩, fun b hb => ?_, (fun _ _ => intItems_at), fun h' tk t' hk => ?_⟩)
  · show b < (s.heap.push _).objs.size
    rw [Heap.size_push]
    rcases List.mem_cons.mp hb with rfl | hb
    · exact Nat.lt_succ_self _
    · rcases List.mem_cons.mp hb with rfl | hb
      · exact Nat.lt_succ_of_lt hlt
      · cases hb
  · have h2 := h h' tk t' fun b o eb => hk b o (fun hb => absurd (Heap.lt_size eb) ((List.mem_singleton.mp hb) ▸ Nat.lt_irrefl _)) (Heap.get?_push_of_some _ eb)
    have hsz : (intItems xs).size = xs.size := by simp [intItems]
    rw [hsz, preSum_eq, List.take_of_length_le (by simp), hn]
    exact h2
end
def rSumT (K : PySem.W.Frag) : List V → Hp → VK → Prop := fun vs H Q => ∃ (a : Addr) (ns : List Int), vs = [V.ref a] ∧ SqT K H a (ns.map V.int) ∧ Q (.int ns.sum) H
theorem cr_sumT {X : Cx} (hc : X.calm = true) : CallR X (.builtin "sum") (rSumT X.K) := by
  intro pins s σ H vs us Q I r h
  obtain ⟨a, ns, rfl, hs, q⟩ := h
  obtain ⟨its, rv, hl, _⟩ := I.tuple hs
  rw [Vals.ref1 r]
  exact sum_rawT (I.ok.hd hc) hl rv.ints fun h' tk t' hk => ⟨.int _, H, I.kept hk, ⟨_, rfl⟩, q⟩
theorem r_sumT {K : PySem.W.Frag} {H : Hp} {Q : VK} {a : Addr} {ns : List Int} (h : SqT K H a (ns.map V.int)) (q : Q (.int ns.sum) H) : rSumT K [.ref a] H Q := ⟨a, ns, rfl, h, q⟩
/-! ### sorted of a dict with ints as keys, any number of them -/
def rSortedDA (P : PySem.W.Frag) : List V → Hp → VK → Prop := fun xs H Q => ∃ (a : Addr) (kvs : List (Key × V)) (ks : List Int), xs = [.ref a] ∧ Rd H a (.dK kvs) ∧ kvs.map (·.1) = ks.map Sum.inl ∧ ks.length ≤ 1000000 ∧
    ∀ (ys : List Int) (p : Addr), ys.Perm ks → ys.Pairwise (· ≤ ·) → H p = none → Q (.ref p) (upd H p (.lst (ys.map V.int)))
theorem cr_sortedDA {X : Cx} (hcalm : X.calm = true) : CallR X (.builtin "sorted") (rSortedDA X.K) := by
  intro pins s σ H xs us Q I r q
  obtain ⟨a, kvs, ks, ex, hd, hks, hM, q⟩ := q
  subst ex
  obtain ⟨u, eu, rx⟩ := vals1 r
  subst eu
  cases rx
  obtain ⟨z, lo, vs, rel, dd⟩ := dk_rd I.hok hd
  obtain ⟨ep, hat⟩ := dd.dictAt
  have hkeys : vs.map (·.1) = ks.map Sum.inl := rel.keys.symm.trans hks
  have hl : vs.length = ks.length := by
    have e := congrArg List.length hkeys
    rw [List.length_map, List.length_map] at e
    exact e
  have hM2 : ks.length ≤ sizeLine := Nat.le_trans hM (by decide)
  have h16 : vs.length ≤ sizeLine := by rw [hl]; exact hM2
  refine Calls.call_function_entry PyProof.Rows.kind_sorted PyProof.Rows.plain_sorted PyProof.Rows.entry_sorted (PyProof.Rows.args_sorted1 _) ?_
  unfold Builtin.«sorted»
  refine wpAny_bind (m := checkCount "sorted" 1 1 _) (wpAny_pure ?_)
  refine wpAny_bind (PySem.W.kdu_collect (A := X.A.in1) (PySem.W.kdl_dict (knd := mixKind X.prog X.w) (kvs := vs) (ep := ep) lo) (I.ok.hd hcalm) hat h16 fun h' tk acc hk hacc => ?_)
  have hal : acc.toList.length = ks.length := by rw [Array.length_toList, hacc.1, hl]
  have hS : IntsAre acc.toList ks := ints_each hal fun j v e => by
    obtain ⟨k, x, e1, e2⟩ := hacc.2 j v (by rw [← Array.getElem?_toList]; exact e)
    have e3 : (vs.map (·.1))[j]? = some k := by rw [List.getElem?_map, e1]; rfl
    rw [hkeys, List.getElem?_map] at e3
    cases e4 : ks[j]? with
    | none => rw [e4] at e3; cases e3
    | some y =>
      rw [e4] at e3
      have e5 : Sum.inl y = k := Option.some.inj e3
      subst e5
      rcases keyIs_shape (show keyIs (Sum.inl y) v = true from e2) with ⟨i, t, ek, ev⟩ | ⟨z, t, ek, ev⟩
      · cases ek
        exact ⟨y, t, rfl, ev⟩
      · cases ek
  have I1 : Inv X pins σ H { s with heap := h', toks := tk } := I.kept hk
  refine wpAny_bind (wpAny_newList ?_ (by rw [hal]; exact hM2))
  have hoL : (h'.push (seqObj "list" acc.toList.toArray 0)).get? h'.objs.size = some (seqObj "list" acc.toList.toArray 0) := Heap.get?_push_size _ rfl
  show wpAny _ _ _ _ _ { s with heap := h'.push (seqObj "list" acc.toList.toArray 0), toks := tk }
  refine wpAny_bind (wpAny_holding (wpAny_call_entry PyProof.Rows.slot_list_sort ⟨_, hoL, rfl⟩ PyProof.Rows.entry_list_sort
    (SrtO.list_sort_ord (s := { s with heap := h'.push (seqObj "list" acc.toList.toArray 0), toks := tk }) SrtO.swo_int hoL (by rw [hal]; exact hM2) (fun h2 => SrtO.ints_sortable hS h2) fun out h1 h2 => ⟨_, rfl, ?_⟩) (PyProof.Rows.args_list_sort _)))
  obtain ⟨g1, g2, g3⟩ := SrtO.ints_out hS h1 h2
  obtain ⟨e', he'⟩ := PyProof.Rows.sortedHeap_at (vs := acc.toList) (out := out.toArray) hoL
  have hlen : ((out.map SrtO.iv).map V.int).length ≤ sizeLine := by
    rw [List.length_map, g2.length_eq]
    exact hM2
  refine wpAny_pure ⟨_, rfl, .ref h'.objs.size, upd H h'.objs.size (.lst ((out.map SrtO.iv).map V.int)), I1.laid (t' := tk) (fun b u e => ?_) (Nat.le_refl _)
    (show ObjOk X.prog X.w _ _ _ (.lst ((out.map SrtO.iv).map V.int)) from ⟨hlen, out, e', vals_of_ints g1, he'⟩), rfl, q (out.map SrtO.iv) _ g2 g3 (I1.hok.fresh (Nat.le_refl _))⟩
  have hb : b < h'.objs.size := Heap.lt_size e
  rw [PyProof.Rows.sortedHeap_old (Nat.ne_of_lt hb) (by rw [size_push']; exact Nat.lt_succ_of_lt hb)]
  exact Heap.get?_push_of_some _ e
/-! ### ranges with a step up -/
theorem small_up {a b c : Int} (ha : 0 ≤ a) (ha' : a < 2 ^ 61) (hb : 0 ≤ b) (hb' : b < 2 ^ 61) (hc : 0 < c) (hc' : c < 2 ^ 30) : Builtin.Range.small a b c = true := by
  unfold Builtin.Range.small Builtin.Range.rangeSize
  simp only [Builtin.Range.rangeFitsLong, Bool.and_eq_true, Bool.or_eq_true, decide_eq_true_eq, beq_iff_eq]
  rw [if_pos hc]
  by_cases h : a < b
  · rw [if_pos h]
    have h1 : 0 ≤ (b - a - 1) / c := Int.ediv_nonneg (by omega) (by omega)
    have h2 : (b - a - 1) / c * c ≤ b - a - 1 := Int.ediv_mul_le _ (by omega)
    have h3 : (b - a - 1) / c ≤ b - a - 1 := Int.ediv_le_self _ (by omega)
    generalize (b - a - 1) / c = q at *
    refine ⟨⟨⟨⟨⟨by omega, by omega⟩, by omega, by omega⟩, by omega, by omega⟩, by omega, by omega⟩, .inr ?_⟩
    rw [if_pos hc, decide_eq_true (by omega), decide_eq_true (by omega)]
    rfl
  · rw [if_neg h]
    exact ⟨⟨⟨⟨⟨by omega, by omega⟩, by omega, by omega⟩, by omega, by omega⟩, by omega, by omega⟩, .inl rfl⟩
theorem RgC.up {a b c : Nat} (ha : a < 2 ^ 60) (hb : b < 2 ^ 60) (hc : 0 < c) (hc' : c < 2 ^ 30) : RgC (a : Int) (b : Int) (c : Int) (if a < b then (b - a - 1) / c + 1 else 0) := by
  refine ⟨by omega, by omega, small_up (by omega) (by omega) (by omega) (by omega) (by omega) (by omega), ?_⟩
  unfold Builtin.Range.rangeSize
  rw [if_pos (by omega)]
  by_cases h : a < b
  · rw [if_pos (by omega), if_pos h]
    have e : (b : Int) - a - 1 = ((b - a - 1 : Nat) : Int) := by omega
    rw [e]
    push_cast
    rfl
  · rw [if_neg (by omega), if_neg h]
    rfl
theorem rg_mult {M e : Nat} (he : 1 ≤ e) (hM : e ≤ M) : (if 2 * e < M + 1 then (M + 1 - 2 * e - 1) / e + 1 else 0) = M / e - 1 := by
  by_cases h : 2 * e < M + 1
  · rw [if_pos h]
    obtain ⟨r, rfl⟩ : ∃ r, M = r + e * 2 := ⟨M - 2 * e, by omega⟩
    rw [Nat.add_mul_div_left _ _ (by omega), show r + e * 2 + 1 - 2 * e - 1 = r by omega]
    generalize r / e = c
    omega
  · rw [if_neg h]
    have h1 : M / e < 2 := (Nat.div_lt_iff_lt_mul (by omega)).mpr (by omega)
    omega
theorem lc_rangeC {lo c : Int} {n : Nat} {g : TG} {tt : TT} {te : TE} {vs : List Nat} {σ : L2.St} {H1 : Hp} {D : Addr} {Qd : Hp → Prop} (Pv : Nat → Hp → Prop) (h0 : Pv 0 (upd H1 D (.lst [])))
    (hs : ∀ i H, i < n → Pv i H → g (.int (lo + (i : Nat) * c)) (wipe σ vs) H fun σ2 H2 => wipe σ2 vs = wipe σ vs ∧ tt σ2 H2 fun b H3 =>
      if b = true then te σ2 H3 fun y H4 => ∃ acc, H4 D = some (.lst acc) ∧ acc.length < sizeLine ∧ Pv (i + 1) (upd H4 D (.lst (acc ++ [y]))) else Pv (i + 1) H3) (hd : ∀ H, Pv n H → Qd H) :
    ∃ W : Nat → Nat → Hp → Prop, (∃ m, W 0 m (upd H1 D (.lst []))) ∧ ∀ i m H, W i m H →
      ((Itc lo c n).stop i H ∧ Qd H) ∨ ((Itc lo c n).go i H ∧ ∃ Nx : Hp → Prop, (∀ H', Nx H' → ∃ m', m' < m ∧ W (i + 1) m' H') ∧ ∀ x H', (Itc lo c n).yld i H x H' → g x (wipe σ vs) H' fun σ2 H2 => wipe σ2 vs = wipe σ vs ∧ tt σ2 H2 fun b H3 =>
        if b = true then te σ2 H3 fun y H4 => ∃ acc, H4 D = some (.lst acc) ∧ acc.length < sizeLine ∧ Nx (upd H4 D (.lst (acc ++ [y]))) else Nx H3) := by
  refine ⟨fun i m H => m = n - i ∧ i ≤ n ∧ Pv i H, ⟨n, by simp, Nat.zero_le _, h0⟩, ?_⟩
  rintro i m H ⟨rfl, hi, p⟩
  by_cases hlt : i < n
  · refine .inr ⟨hlt, Pv (i + 1), fun H' p' => ⟨n - (i + 1), by omega, rfl, hlt, p'⟩, fun x H' y => ?_⟩
    obtain ⟨e, y⟩ := y
    subst e y
    exact hs i _ hlt p
  · have e : i = n := by omega
    subst e
    exact .inl ⟨Nat.le_refl _, hd H p⟩
/-! ### tables of numbers -/
/-- the dict at d: at the keys k from above lo to hi the numbers f k -/
def NT (H : Hp) (d : Addr) (lo hi : Nat) (f : Nat → Int) (N : Nat) : Prop := ∃ kvs : List (Key × V), H d = some (.dK kvs) ∧ kvs.length ≤ N ∧ ∀ k : Nat, lo < k → k ≤ hi → valV kvs (.inl (k : Int)) = some (.int (f k))
theorem NT.same {H H' : Hp} {d : Addr} {lo hi N : Nat} {f : Nat → Int} (h : NT H d lo hi f N) (s : Same H H') : NT H' d lo hi f N := by
  obtain ⟨kvs, h1, h2, h3⟩ := h
  exact ⟨kvs, s _ _ h1, h2, h3⟩
theorem NT.new {H : Hp} {d : Addr} {hi : Nat} {f : Nat → Int} (h : H d = some (.dK [])) : NT H d hi hi f 0 := ⟨[], h, Nat.le_refl _, fun k a b => absurd a (by omega)⟩
theorem NT.get {H : Hp} {d : Addr} {lo hi N : Nat} {f : Nat → Int} (h : NT H d lo hi f N) {k : Nat} (h1 : lo < k) (h2 : k ≤ hi) : DGet H d (.int (k : Int)) (some (.int (f k))) := by
  obtain ⟨kvs, h3, _, h4⟩ := h
  rw [← h4 k h1 h2]
  exact DGet.k (k := .inl (k : Int)) h3
theorem NT.put {H : Hp} {d : Addr} {lo hi N : Nat} {f : Nat → Int} {D : Hp → Prop} (h : NT H d lo hi f N) (hN : N < 10000) (k0 : Nat) (v : Int) (lo' hi' : Nat) (f' : Nat → Int) (hf : ∀ k, lo' < k → k ≤ hi' → (k = k0 ∧ f' k = v) ∨ (k ≠ k0 ∧ lo < k ∧ k ≤ hi ∧ f' k = f k))
    (q : ∀ H', Keep d H H' → NT H' d lo' hi' f' (N + 1) → D H') : ∃ H', DPut H d (.int (k0 : Int)) (.int v) H' ∧ D H' := by
  obtain ⟨kvs, h1, h2, h3⟩ := h
  refine ⟨_, DPut.k (k := .inl (k0 : Int)) h1 (Nat.lt_of_le_of_lt h2 (Nat.lt_of_lt_of_le hN (by decide))), q _ Keep.upd ⟨_, upd_same, Nat.le_trans (length_putK _ _ _) (Nat.add_le_add_right h2 1), fun k a b => ?_⟩⟩
  rcases hf k a b with ⟨rfl, e⟩ | ⟨ne, a', b', e⟩
  · rw [valV_put, if_pos rfl, e]
  · have ne' : ¬ (Sum.inl (k : Int) : Key) = .inl (k0 : Int) := fun z => ne (by have := Sum.inl.inj z; omega)
    rw [valV_put, if_neg ne', h3 k a' b', e]
section
variable {td ty tv : TE} {σ : L2.St} {H : Hp} {Q : VK} {D : Ends} {rd : V → V → Hp → VK → Prop}
theorem r_dget (h : td σ H fun x H1 => ty σ H1 fun y H2 => ∃ a v, x = .ref a ∧ DGet H2 a y (some v) ∧ Q v H2) : tDGet td ty σ H Q := h
theorem r_daug (h : td σ H fun x H1 => ty σ H1 fun y H2 => ∃ a v, x = .ref a ∧ DGet H2 a y (some v) ∧ tv σ H2 fun y2 H3 => rd v y2 H3 fun z H4 => ∃ H5, DPut H4 a y z H5 ∧ D.nx σ H5) : sDAug td ty tv rd D σ H := h
end
/-! ### a table of marks: its keys are the numbers ks, each once -/
def MT (H : Hp) (d : Addr) (ks : List Nat) : Prop := ks.Nodup ∧ ∃ kvs : List (Key × V), H d = some (.dK kvs) ∧ kvs.map (·.1) = ks.map fun k : Nat => (Sum.inl (k : Int) : Key)
theorem MT.same {H H' : Hp} {d : Addr} {ks : List Nat} (h : MT H d ks) (s : Same H H') : MT H' d ks := by
  obtain ⟨h0, kvs, h1, h2⟩ := h
  exact ⟨h0, kvs, s _ _ h1, h2⟩
theorem mt_len {ks : List Nat} {kvs : List (Key × V)} (h : kvs.map (·.1) = ks.map fun k : Nat => (Sum.inl (k : Int) : Key)) : kvs.length = ks.length := by
  have := congrArg List.length h
  simpa using this
theorem mt_val {k : Nat} : ∀ {ks : List Nat} {kvs : List (Key × V)}, kvs.map (·.1) = (ks.map fun k : Nat => (Sum.inl (k : Int) : Key)) → ((valV kvs (.inl (k : Int))).isSome = true ↔ k ∈ ks)
  | [], [], _ => by
    rw [valV_nil]
    exact ⟨(fun h => nomatch h), (fun h => nomatch h)⟩
  | [], _ :: _, h => by simp at h
  | _ :: _, [], h => by simp at h
  | x :: ks, p :: kvs, h => by
    rw [List.map_cons, List.map_cons] at h
    obtain ⟨h1, h2⟩ := List.cons.inj h
    have ih := mt_val (k := k) h2
    by_cases e : k = x
    · subst e
      rw [valV_pos h1]
      exact ⟨fun _ => List.mem_cons_self .., fun _ => rfl⟩
    · have ne : ¬ p.1 = .inl (k : Int) := fun z => e (by
        have h3 := h1.symm.trans z
        have := Sum.inl.inj h3
        omega)
      rw [valV_neg ne, ih]
      exact ⟨fun m => List.mem_cons_of_mem _ m, fun m => (List.mem_cons.mp m).resolve_left e⟩
/-- one more mark -/
def mtAdd (ks : List Nat) (k : Nat) : List Nat := if k ∈ ks then ks else ks ++ [k]
theorem mem_mtAdd {ks : List Nat} {k x : Nat} : x ∈ mtAdd ks k ↔ x ∈ ks ∨ x = k := by
  unfold mtAdd
  by_cases h : k ∈ ks
  · rw [if_pos h]
    exact ⟨.inl, fun z => z.elim id fun e => e ▸ h⟩
  · rw [if_neg h, List.mem_append, List.mem_singleton]
theorem mtAdd_len (ks : List Nat) (k : Nat) : (mtAdd ks k).length ≤ ks.length + 1 := by
  unfold mtAdd
  by_cases h : k ∈ ks
  · rw [if_pos h]; omega
  · rw [if_neg h, List.length_append]; simp
theorem mtAdd_nd {ks : List Nat} (h : ks.Nodup) (k : Nat) : (mtAdd ks k).Nodup := by
  unfold mtAdd
  by_cases m : k ∈ ks
  · rw [if_pos m]; exact h
  · rw [if_neg m]
    refine List.nodup_append.mpr ⟨h, by simp, fun x hx y hy e => m ?_⟩
    have hy2 : y = k := by simpa using hy
    rw [← hy2, ← e]
    exact hx
theorem MT.put {H : Hp} {d : Addr} {ks : List Nat} {D : Hp → Prop} {v : V} (h : MT H d ks) (hN : ks.length < 1000000) (k0 : Nat)
    (q : ∀ H', Keep d H H' → MT H' d (mtAdd ks k0) → D H') : ∃ H', DPut H d (.int (k0 : Int)) v H' ∧ D H' := by
  obtain ⟨h0, kvs, h1, h2⟩ := h
  have hl := mt_len h2
  refine ⟨_, DPut.k (k := .inl (k0 : Int)) h1 (Nat.lt_of_lt_of_le (by rw [hl]; exact hN) (by decide)), q _ Keep.upd ⟨mtAdd_nd h0 k0, _, upd_same, ?_⟩⟩
  have hm := mt_val (k := k0) h2
  unfold mtAdd
  by_cases m : k0 ∈ ks
  · rw [if_pos m, ← h2]
    unfold putK
    rw [valV_any, hm.mpr m, if_pos rfl, List.map_map]
    refine List.map_congr_left fun p _ => ?_
    show (if p.1 = .inl (k0 : Int) then (p.1, v) else p).1 = p.1
    split <;> rfl
  · rw [if_neg m, putK_new]
    · rw [List.map_append, h2, List.map_append]
      rfl
    · cases e : valV kvs (.inl (k0 : Int)) with
      | none => rfl
      | some y => exact absurd (hm.mp (by rw [e]; rfl)) m
theorem MT.get {H : Hp} {d : Addr} {ks : List Nat} (h : MT H d ks) (k : Nat) : ∃ o : Option V, DGet H d (.int (k : Int)) o ∧ (o.isSome = true ↔ k ∈ ks) := by
  obtain ⟨_, kvs, h1, h2⟩ := h
  exact ⟨_, DGet.k (k := .inl (k : Int)) h1, mt_val h2⟩
theorem MT.isD {H : Hp} {d : Addr} {ks : List Nat} (h : MT H d ks) : IsD H d := by
  obtain ⟨_, kvs, h1, _⟩ := h
  exact .inl ⟨kvs, Rd.of h1⟩
/-- rising, each once -/
abbrev Up (ks : List Nat) : Prop := ks.Pairwise (· < ·)
theorem cast_list : ∀ {ys : List Int} {ks : List Nat}, ys.Perm (ks.map fun k : Nat => (k : Int)) → ∃ zs : List Nat, ys = zs.map (fun k : Nat => (k : Int)) ∧ zs.Perm ks := fun {ys ks} h => by
  refine ⟨ys.map Int.toNat, ?_, ?_⟩
  · rw [List.map_map]
    conv => lhs; rw [← List.map_id ys]
    refine List.map_congr_left fun y m => ?_
    obtain ⟨k, _, rfl⟩ := List.mem_map.mp (h.mem_iff.mp m)
    rfl
  · have h2 := h.map Int.toNat
    rw [List.map_map] at h2
    have e : Int.toNat ∘ (fun k : Nat => (k : Int)) = id := by funext k; rfl
    rw [e, List.map_id] at h2
    exact h2
theorem r_sortedMT {K : PySem.W.Frag} {d : Addr} {ks : List Nat} {H : Hp} {Q : VK} (h : MT H d ks) (hl : ks.length ≤ 1000000)
    (q : ∀ (p : Addr) (H' : Hp) (zs : List Nat), H p = none → H' p = some (.lst ((zs.map fun k : Nat => (k : Int)).map V.int)) → Same H H' → zs.Perm ks → Up zs → Q (.ref p) H') : rSortedDA K [.ref d] H Q := by
  obtain ⟨h0, kvs, h1, h2⟩ := h
  refine ⟨d, kvs, ks.map (fun k : Nat => (k : Int)), rfl, .of h1, ?_, by rw [List.length_map]; exact hl, fun ys p hp hs np => ?_⟩
  · rw [h2, List.map_map]
    rfl
  · obtain ⟨zs, rfl, hz⟩ := cast_list hp
    refine q p _ zs np upd_same (same_new np) hz ?_
    have nd : zs.Nodup := hz.nodup_iff.mpr h0
    have le : zs.Pairwise (· ≤ ·) := (List.pairwise_map.mp hs).imp fun h => by omega
    exact (le.and nd).imp fun ⟨a, b⟩ => Nat.lt_of_le_of_ne a b
end Pw

namespace Pw
open PySem PySem.Spec PyProof.Rows L2 SX TL
/-! ### the program's counts -/
abbrev nn (ks : List Nat) : List V := (ks.map fun k : Nat => (k : Int)).map V.int
theorem nn_get {ks : List Nat} {i : Nat} (h : i < ks.length) : (nn ks)[i]? = some (.int ((ks[i] : Nat) : Int)) := by
  rw [List.getElem?_map, List.getElem?_map, List.getElem?_eq_getElem h]
  rfl
theorem nn_len (ks : List Nat) : (nn ks).length = ks.length := by rw [List.length_map, List.length_map]
theorem nn_sum : ∀ ks : List Nat, (ks.map fun k : Nat => (k : Int)).sum = ((ks.sum : Nat) : Int)
  | [] => rfl
  | k :: ks => by
    rw [List.map_cons, List.sum_cons, List.sum_cons, nn_sum ks]
    omega
def spCountBy : Sp := fun vs H Q _ => ∃ n e : Nat, vs = [.int (n : Int), .int (e : Int)] ∧ 0 < e ∧ e ≤ 200 ∧ n < 2 ^ 4000 ∧ ∀ (r : Nat) (H' : Hp), Pm.IsRoot n e r → Same H H' → Q (.int (r : Int)) H'
/-- the counts by greatest exponents of n -/
def CG (n : Nat) (ks : List Nat) : Prop := (n = 0 ∧ ks = []) ∨ (1 ≤ n ∧ ∃ M, Pm.Mst n M ∧ ks = Pm.cgl n M)
theorem CG.uniq {n : Nat} {ks ls : List Nat} (h : CG n ks) (h' : CG n ls) : ks = ls := by
  rcases h with ⟨z, rfl⟩ | ⟨n1, M, hM, rfl⟩
  · rcases h' with ⟨_, rfl⟩ | ⟨n1, _⟩
    · rfl
    · omega
  · rcases h' with ⟨z, _⟩ | ⟨_, M', hM', rfl⟩
    · omega
    · rw [hM.uniq hM']
theorem CG.sum {n : Nat} {ks : List Nat} (h : CG n ks) : ks.sum = Pm.cntP n := by
  unfold Pm.cntP
  rcases h with ⟨rfl, rfl⟩ | ⟨n1, M, hM, rfl⟩
  · rfl
  · rw [if_neg (by omega)]
    exact Pm.cgl_sum hM
def spCounts : Sp := fun vs H Q _ => ∃ n : Nat, vs = [.int (n : Int)] ∧ n < 2 ^ 190 ∧ ∀ (ks : List Nat) (p : Addr) (H' : Hp), CG n ks → H p = none → Same H H' → H' p = some (.tup (nn ks)) → Q (.ref p) H'
def spCountTo : Sp := fun vs H Q _ => ∃ n : Nat, vs = [.int (n : Int)] ∧ n < 2 ^ 190 ∧ ∀ H', Same H H' → Q (.int (Pm.cntP n : Nat)) H'
theorem mst_ex {n : Nat} (hn : 1 ≤ n) (hb : n < 2 ^ 190) : ∃ M : Nat, (if (2 : Int) > (Builtin.Int.intBits (n : Int) : Int) - 1 then (2 : Int) else (Builtin.Int.intBits (n : Int) : Int) - 1) = (M : Int) ∧ Pm.Mst n M ∧ M ≤ 190 := by
  have h1 := bits_lt n
  have h2 := bits_le hb
  obtain ⟨h3, h4⟩ := bits_ge (show 0 < n by omega)
  generalize Builtin.Int.intBits (n : Int) = b at *
  by_cases z : (2 : Int) > (b : Int) - 1
  · refine ⟨2, if_pos z, ⟨Nat.le_refl 2, Nat.lt_of_lt_of_le h1 (Nat.pow_le_pow_right (by decide) (by omega)), .inl rfl⟩, by decide⟩
  · refine ⟨b - 1, by rw [if_neg z]; omega, ⟨by omega, by rw [show b - 1 + 1 = b by omega]; exact h1, .inr h3⟩, by omega⟩
end Pw

namespace Pm
/-- the marks that stand behind the bases below B and the powers of B below the exponent E -/
def PInv (ks : List Nat) (M B E : Nat) : Prop := ∀ x, x ∈ ks ↔ x = 1 ∨ (x ≤ M ∧ ∃ c e, 2 ≤ c ∧ 2 ≤ e ∧ c ^ e = x ∧ (c < B ∨ (c = B ∧ e < E)))
theorem PInv.new (M : Nat) : PInv [1] M 2 2 := fun x => by
  rw [List.mem_singleton]
  refine ⟨.inl, fun h => h.elim id fun ⟨_, c, e, h1, h2, _, h3⟩ => ?_⟩
  omega
theorem PInv.push {ks : List Nat} {M B E : Nat} (h : PInv ks M B E) (b2 : 2 ≤ B) (e2 : 2 ≤ E) (hv : B ^ E ≤ M) : PInv (Pw.mtAdd ks (B ^ E)) M B (E + 1) := fun x => by
  rw [Pw.mem_mtAdd, h x]
  constructor
  · rintro ((h1 | ⟨h1, c, e, h2, h3, h4, h5⟩) | rfl)
    · exact .inl h1
    · exact .inr ⟨h1, c, e, h2, h3, h4, by omega⟩
    · exact .inr ⟨hv, B, E, b2, e2, rfl, .inr ⟨rfl, by omega⟩⟩
  · rintro (h1 | ⟨h1, c, e, h2, h3, h4, h5⟩)
    · exact .inl (.inl h1)
    · by_cases z : c = B ∧ e = E
      · exact .inr (by rw [← h4, z.1, z.2])
      · exact .inl (.inr ⟨h1, c, e, h2, h3, h4, by omega⟩)
theorem PInv.next {ks : List Nat} {M B E : Nat} (h : PInv ks M B E) (b2 : 2 ≤ B) (hv : M < B ^ E) : PInv ks M (B + 1) 2 := fun x => by
  rw [h x]
  constructor
  · rintro (h1 | ⟨h1, c, e, h2, h3, h4, h5⟩)
    · exact .inl h1
    · exact .inr ⟨h1, c, e, h2, h3, h4, by omega⟩
  · rintro (h1 | ⟨h1, c, e, h2, h3, h4, h5⟩)
    · exact .inl h1
    · refine .inr ⟨h1, c, e, h2, h3, h4, ?_⟩
      rcases h5 with h5 | h5
      · by_cases w : c = B
        · refine .inr ⟨w, Nat.lt_of_not_le fun z => ?_⟩
          have h6 := Nat.pow_le_pow_right (show 0 < B by omega) z
          rw [← w, h4, w] at h6
          omega
        · exact .inl (by omega)
      · omega
theorem PInv.done {ks : List Nat} {M : Nat} (h : PInv ks M (M + 1) 2) (hM : 1 ≤ M) (x : Nat) : x ∈ ks ↔ 1 ≤ x ∧ x ≤ M ∧ IsPow x := by
  rw [h x]
  constructor
  · rintro (rfl | ⟨h1, c, e, h2, h3, h4, _⟩)
    · exact ⟨Nat.le_refl 1, hM, 1, 2, Nat.le_refl 2, rfl⟩
    · refine ⟨?_, h1, c, e, h3, h4⟩
      rw [← h4]
      exact Nat.pow_pos (by omega)
  · rintro ⟨h1, h2, c, e, h3, h4⟩
    by_cases z : x = 1
    · exact .inl z
    · have c2 : 2 ≤ c := pow_base1 (by omega) (by omega) h4
      have : c ≤ x := by rw [← h4]; exact Nat.le_self_pow (by omega) c
      exact .inr ⟨h2, c, e, c2, h3, h4, .inl (by omega)⟩
theorem PInv.len {ks : List Nat} {M B E : Nat} (h : PInv ks M B E) (hn : ks.Nodup) (hM : 1 ≤ M) : ks.length ≤ M + 1 := by
  have h1 := hn.length_le_of_subset (l₂ := List.range (M + 1)) fun x m => by
    rw [List.mem_range]
    rcases (h x).mp m with z | ⟨z, _⟩ <;> omega
  rwa [List.length_range] at h1
theorem cntP_all (n : Nat) : cntP n = S (fun m => I (1 ≤ m ∧ IsPow m)) (n + 1) := by
  unfold cntP
  by_cases h0 : n = 0
  · subst h0
    rw [if_pos rfl]
    show 0 = 0 + I (1 ≤ 0 ∧ IsPow 0)
    rw [I_f (fun h => absurd h.1 (by decide))]
  · rw [if_neg h0]
    have e : ∀ m, m < n + 1 → I (1 ≤ m ∧ IsPow m) = (if m = 1 then 1 else 0) + I (2 ≤ m ∧ IsPow m) := fun m _ => by
      by_cases z : m = 1
      · subst z
        rw [if_pos rfl, I_t ⟨Nat.le_refl 1, 1, 2, Nat.le_refl 2, rfl⟩, I_f (fun h => absurd h.1 (by decide))]
      · rw [if_neg z, Nat.zero_add]
        exact I_congr ⟨fun h => ⟨by omega, h.2⟩, fun h => ⟨by omega, h.2⟩⟩
    rw [S_congr e, S_add, S_one, if_pos (by omega)]
/-- going through a list of all powers -/
theorem cnt_filter {zs : List Nat} {M n : Nat} (hn : zs.Nodup) (hz : ∀ x, x ∈ zs ↔ 1 ≤ x ∧ x ≤ M ∧ IsPow x) (h : n ≤ M) : (zs.filter fun x => decide (x ≤ n)).length = cntP n := by
  rw [cntP_all, ← len_marks (l := zs.filter fun x => decide (x ≤ n)) (N := n + 1) (hn.filter _) fun x m => by
    have := of_decide_eq_true (List.mem_filter.mp m).2
    omega]
  refine S_congr fun m hm => I_congr ?_
  rw [List.mem_filter, hz]
  exact ⟨fun ⟨⟨a, _, b⟩, _⟩ => ⟨a, b⟩, fun ⟨a, b⟩ => ⟨⟨a, by omega, b⟩, decide_eq_true (by omega)⟩⟩
end Pm
namespace Pw
open PySem PySem.Spec PyProof.Rows L2 SX TL
theorem Up.nodup {zs : List Nat} (h : Up zs) : zs.Nodup := h.imp fun a => Nat.ne_of_lt a
def spIsWhole : Sp := fun vs H Q _ => ∃ i : Int, vs = [.int i, .int i] ∧ Q (.bl true) H
def spNear : Sp := fun vs H Q _ => ∃ M : Nat, vs = [.int (M : Int)] ∧ 1 ≤ M ∧ M ≤ 3000 ∧ ∀ (zs : List Nat) (p : Addr) (H' : Hp), H p = none → Same H H' → H' p = some (.lst (nn zs)) → Up zs → (∀ x, x ∈ zs ↔ 1 ≤ x ∧ x ≤ M ∧ Pm.IsPow x) → Q (.ref p) H'
/-- the list of what is put in, by the test c, of the first i -/
theorem fil_succ {zs : List Nat} {i x : Nat} (c : Nat → Bool) (h : zs[i]? = some x) : (zs.take (i + 1)).filter c = if c x = true then (zs.take i).filter c ++ [x] else (zs.take i).filter c := by
  rw [List.take_add_one, h, List.filter_append]
  by_cases z : c x = true
  · rw [if_pos z]
    simp [z]
  · rw [if_neg z]
    simp [z]
theorem nn_at {zs : List Nat} {i : Nat} {x : V} (h : (nn zs)[i]? = some x) : ∃ k : Nat, zs[i]? = some k ∧ x = .int (k : Int) := by
  rw [List.getElem?_map, List.getElem?_map] at h
  cases e : zs[i]? with
  | none => rw [e] at h; cases h
  | some k =>
    rw [e] at h
    exact ⟨k, rfl, (Option.some.inj h).symm⟩
theorem nn_push (zs : List Nat) (k : Nat) : nn zs ++ [.int (k : Int)] = nn (zs ++ [k]) := by simp only [nn, List.map_append, List.map_cons, List.map_nil]
def spSeedR : Sp := fun vs H Q _ => ∃ (d : Addr) (n : Nat), vs = [.ref d] ∧ SeedAt H d n ∧ n ≤ 2 ^ 40 ∧ ∀ H', Keep d H H' → SeedAt H' d (n + 100) → Q (.bl true) H'
def spRight8 : Sp := fun vs H Q _ => ∃ (d p : Addr) (n m : Nat), vs = [.ref d, .int (m : Int), .ref p] ∧ m ≤ 10 ^ 40 ∧ SeedAt H d n ∧ n ≤ 2 ^ 40 ∧ p ≠ d ∧ H p = some (.lst ((sgRow 139).map V.int)) ∧ ∀ H', Keep d H H' → SeedAt H' d (n + 100) → Q (.bl true) H'
theorem lt133 {m : Nat} (h : m ≤ 10 ^ 40) : m < 2 ^ 133 := Nat.lt_of_le_of_lt h (by decide)
end Pw

namespace Pm
theorem isPow_small {x K : Nat} (h1 : 1 ≤ x) (hK : x < 2 ^ K) (K3 : 3 ≤ K) : IsPow x ↔ ∃ c, c < x + 1 ∧ ∃ k, k < K ∧ (2 ≤ k ∧ c ^ k = x) := by
  constructor
  · rintro ⟨c, k, k2, e⟩
    have cx : c ≤ x := by rw [← e]; exact Nat.le_self_pow (by omega) c
    by_cases z : x = 1
    · exact ⟨1, by omega, 2, by omega, Nat.le_refl 2, by rw [z]⟩
    · have c2 := pow_base1 (show 1 ≤ k by omega) (show 2 ≤ x by omega) e
      refine ⟨c, by omega, k, Nat.lt_of_not_le fun w => ?_, k2, e⟩
      have h3 := two_pow_le (g := k) (n := x) c2 (by rw [e]; exact Nat.le_refl _)
      have h4 := Nat.pow_le_pow_right (show 0 < 2 by decide) w
      omega
  · rintro ⟨c, _, k, _, k2, e⟩
    exact ⟨c, k, k2, e⟩
theorem cntP_list {zs : List Nat} {M n : Nat} (hn : zs.Nodup) (hz : ∀ x, x ∈ zs ↔ 1 ≤ x ∧ x ≤ M ∧ IsPow x) (h : M = n) : cntP n = zs.length := by
  subst h
  rw [← cnt_filter hn hz (Nat.le_refl M), List.filter_eq_self.mpr]
  exact fun x m => decide_eq_true ((hz x).mp m).2.1
theorem near27 (x : Nat) : x ∈ [1, 4, 8, 9, 16, 25, 27] ↔ 1 ≤ x ∧ x ≤ 27 ∧ IsPow x := by
  have h : ∀ x, x < 28 → (x ∈ [1, 4, 8, 9, 16, 25, 27] ↔ 1 ≤ x ∧ ∃ c, c < x + 1 ∧ ∃ k, k < 5 ∧ (2 ≤ k ∧ c ^ k = x)) := by decide +kernel
  constructor
  · intro m
    have hx : x < 28 := by
      simp only [List.mem_cons, List.not_mem_nil, or_false] at m
      omega
    obtain ⟨h1, h2⟩ := (h x hx).mp m
    exact ⟨h1, by omega, (isPow_small h1 (by omega) (by decide)).mpr h2⟩
  · rintro ⟨h1, h2, h3⟩
    exact (h x (by omega)).mpr ⟨h1, (isPow_small h1 (by omega) (by decide)).mp h3⟩
theorem cntP_27 : cntP 27 = 7 := cntP_list (by decide) near27 rfl
theorem cntP_0 : cntP 0 = 0 := if_pos rfl
theorem cntP_1 : cntP 1 = 1 := by
  rw [cntP_list (zs := [1]) (M := 1) (by decide) (fun x => ?_) rfl]
  · rfl
  · rw [List.mem_singleton]
    exact ⟨fun e => by rw [e]; exact ⟨by decide, by decide, 1, 2, by decide, rfl⟩, fun ⟨a, b, _⟩ => by omega⟩
end Pm

namespace Pm
/-- bases that are no powers, by a root -/
theorem S_ge2 : ∀ m : Nat, S (fun c => I (1 ≤ c)) (m + 1) = m
  | 0 => by
    show 0 + I (1 ≤ 0) = 0
    rw [I_f (by decide)]
  | m + 1 => by
    show S (fun c => I (1 ≤ c)) (m + 1) + I (1 ≤ m + 1) = m + 1
    rw [S_ge2 m, I_t (by omega)]
theorem Nn_root {n e r : Nat} (he : 1 ≤ e) (hn : 1 ≤ n) (hr : IsRoot n e r) : cntP r + Nn n e = r := by
  have hle : ∀ b, b ^ e ≤ n ↔ b ≤ r := fun b => by
    constructor
    · intro h
      refine Nat.le_of_not_lt fun z => ?_
      have h3 : (r + 1) ^ e ≤ b ^ e := Nat.pow_le_pow_left z e
      exact absurd (Nat.lt_of_lt_of_le hr.2 (Nat.le_trans h3 h)) (Nat.lt_irrefl _)
    · intro h
      exact Nat.le_trans (Nat.pow_le_pow_left h e) hr.1
  have rn : r ≤ n := Nat.le_trans (Nat.le_self_pow (by omega) r) hr.1
  have e1 : Nn n e = S (fun c => I (Q c ∧ c ≤ r)) (r + 1) := by
    unfold Nn
    rw [S_congr (g := fun c => I (Q c ∧ c ≤ r)) fun c _ => I_congr ⟨fun ⟨a, b⟩ => ⟨a, (hle c).mp b⟩, fun ⟨a, b⟩ => ⟨a, (hle c).mpr b⟩⟩]
    obtain ⟨k, rfl⟩ := Nat.exists_eq_add_of_le rn
    have out : ∀ k, S (fun c => I (Q c ∧ c ≤ r)) (r + 1 + k) = S (fun c => I (Q c ∧ c ≤ r)) (r + 1) := fun k => by
      induction k with
      | zero => rfl
      | succ k ih =>
        show S (fun c => I (Q c ∧ c ≤ r)) (r + 1 + k) + I (Q (r + 1 + k) ∧ r + 1 + k ≤ r) = _
        rw [ih, I_f (fun h => by have := h.2; omega), Nat.add_zero]
    rw [show r + k + 1 = r + 1 + k by omega, out]
  rw [cntP_all, e1, ← S_add]
  have e2 : ∀ c, c < r + 1 → I (1 ≤ c ∧ IsPow c) + I (Q c ∧ c ≤ r) = I (1 ≤ c) := fun c hc => by
    by_cases z : 1 ≤ c
    · by_cases w : IsPow c
      · rw [I_t ⟨z, w⟩, I_t z, I_f]
        rintro ⟨⟨_, h⟩, _⟩
        obtain ⟨b, k, k2, ek⟩ := w
        exact h b k k2 ek
      · rw [I_f (fun h => w h.2), I_t z, I_t]
        refine ⟨⟨?_, fun b k k2 ek => w ⟨b, k, k2, ek⟩⟩, by omega⟩
        refine Nat.lt_of_le_of_ne z fun h => w ?_
        rw [← h]
        exact ⟨1, 2, Nat.le_refl 2, rfl⟩
    · rw [I_f (fun h => z h.1), I_f z, I_f]
      rintro ⟨⟨h, _⟩, _⟩
      omega
  rw [S_congr e2, S_ge2]
end Pm
namespace Pw
open PySem PySem.Spec PyProof.Rows L2 SX TL
/-- the greatest exponent of x -/
noncomputable def gexp (x : Nat) : Nat := Classical.choose (Classical.choose_spec (GW.ex x))
theorem gexp_is (x : Nat) : ∃ b, GW x b (gexp x) := ⟨_, Classical.choose_spec (Classical.choose_spec (GW.ex x))⟩
theorem gexp_eq {x b g : Nat} (h : GW x b g) : gexp x = g := by
  obtain ⟨b', h'⟩ := gexp_is x
  exact (h'.uniq h).2
theorem gexp_1 : gexp 1 = 2 := gexp_eq (.inr (.inl ⟨rfl, rfl, rfl⟩))
/-- each exponent of x is one that divides the greatest -/
theorem gexp_ge {x c e : Nat} (hx : 2 ≤ x) (he : 2 ≤ e) (h : c ^ e = x) : e ≤ gexp x := by
  obtain ⟨b, hb⟩ := gexp_is x
  exact Nat.le_of_dvd hb.pos (hb.base hx he h).1
theorem gexp_at {x : Nat} (hx : 2 ≤ x) : ∃ c, 2 ≤ c ∧ Pm.NotPow c ∧ c ^ gexp x = x := by
  obtain ⟨b, hb⟩ := gexp_is x
  rcases hb with ⟨z, _⟩ | ⟨z, _⟩ | ⟨b2, np, _, e⟩
  · omega
  · omega
  · exact ⟨b, b2, np, e⟩
theorem gexp_pos {x : Nat} : 1 ≤ gexp x := by
  obtain ⟨b, hb⟩ := gexp_is x
  exact hb.pos
theorem gexp_pow {x : Nat} (h1 : 1 ≤ x) : Pm.IsPow x ↔ 2 ≤ gexp x := by
  by_cases z : x = 1
  · subst z
    rw [gexp_1]
    exact ⟨fun _ => Nat.le_refl 2, fun _ => ⟨1, 2, Nat.le_refl 2, rfl⟩⟩
  · constructor
    · rintro ⟨c, k, k2, e⟩
      exact Nat.le_trans k2 (gexp_ge (by omega) k2 e)
    · intro h
      obtain ⟨c, _, _, e⟩ := gexp_at (show 2 ≤ x by omega)
      exact ⟨c, gexp x, h, e⟩
/-- how many numbers to n have just e as their greatest exponent -/
theorem S_gexp {n e : Nat} (he : 1 ≤ e) : Pm.S (fun x => Pm.I (2 ≤ x ∧ gexp x = e)) (n + 1) = Pm.Nn n e := by
  have h1 : ∀ x, x < n + 1 → Pm.I (2 ≤ x ∧ gexp x = e) = Pm.S (fun c => Pm.I (Pm.Q c ∧ c ^ e = x ∧ x ≤ n)) (n + 1) := fun x hx => by
    by_cases z : 2 ≤ x ∧ gexp x = e
    · obtain ⟨c0, c2, np, e0⟩ := gexp_at z.1
      rw [z.2] at e0
      have hc : c0 ≤ x := by rw [← e0]; exact Nat.le_self_pow (by omega) c0
      rw [Pm.I_t z]
      rw [Pm.S_mark (A := fun c => Pm.Q c ∧ c ^ e = x ∧ x ≤ n) (b0 := c0) (P := True) (fun c => ?_) (fun _ => by omega), Pm.I_t trivial]
      constructor
      · rintro ⟨q, ec, _⟩
        exact ⟨(Pm.Q_uniq q ⟨c2, np⟩ he he (ec.trans e0.symm)).1, trivial⟩
      · rintro ⟨rfl, _⟩
        exact ⟨⟨c2, np⟩, e0, by omega⟩
    · rw [Pm.I_f z, Pm.S_congr (g := fun _ => 0) fun c _ => Pm.I_f ?_, Pm.S_zero]
      rintro ⟨⟨c2, np⟩, ec, _⟩
      have x2 : 2 ≤ x := by rw [← ec]; exact Nat.le_trans c2 (Nat.le_self_pow (by omega) c)
      exact z ⟨x2, gexp_eq (.inr (.inr ⟨c2, np, he, ec⟩))⟩
  rw [Pm.S_congr h1, Pm.S_swap]
  unfold Pm.Nn
  refine Pm.S_congr fun c _ => ?_
  refine Pm.S_mark (b0 := c ^ e) (P := Pm.Q c ∧ c ^ e ≤ n) (fun x => ?_) fun h => Nat.lt_succ_of_le h.2
  constructor
  · rintro ⟨q, rfl, h⟩
    exact ⟨rfl, q, h⟩
  · rintro ⟨rfl, q, h⟩
    exact ⟨q, rfl, h⟩
/-- the counts by going through all powers to n -/
theorem count_gexp {zs : List Nat} {M n e : Nat} (hn : zs.Nodup) (hz : ∀ x, x ∈ zs ↔ 1 ≤ x ∧ x ≤ M ∧ Pm.IsPow x) (h : n ≤ M) (n1 : 1 ≤ n) (he : 2 ≤ e) :
    ((zs.filter fun x => decide (x ≤ n)).map gexp).count e = Pm.Nn n e + if e = 2 then 1 else 0 := by
  rw [List.count_eq_countP, List.countP_map, List.countP_eq_length_filter, List.filter_filter]
  rw [← Pm.len_marks (N := n + 1) (hn.filter _) fun x m => by
    have := (List.mem_filter.mp m).2
    simp only [Bool.and_eq_true, decide_eq_true_eq] at this
    omega]
  rw [← S_gexp (n := n) (show 1 ≤ e by omega)]
  have e1 : ∀ x, x < n + 1 → Pm.I (x ∈ zs.filter fun x => (((fun x => x == e) ∘ gexp) x && decide (x ≤ n))) = Pm.I (2 ≤ x ∧ gexp x = e) + if x = 1 then (if e = 2 then 1 else 0) else 0 := fun x hx => by
    have em : (x ∈ zs.filter fun x => (((fun x => x == e) ∘ gexp) x && decide (x ≤ n))) ↔ (1 ≤ x ∧ gexp x = e) := by
      rw [List.mem_filter, hz]
      simp only [Bool.and_eq_true, decide_eq_true_eq, Function.comp, beq_iff_eq]
      constructor
      · rintro ⟨⟨a, _, _⟩, b, _⟩
        exact ⟨a, b⟩
      · rintro ⟨a, b⟩
        exact ⟨⟨a, by omega, (gexp_pow a).mpr (by omega)⟩, b, by omega⟩
    rw [Pm.I_congr em]
    by_cases z : x = 1
    · subst z
      rw [if_pos rfl, Pm.I_f (p := 2 ≤ 1 ∧ gexp 1 = e) (fun h => absurd h.1 (by decide)), Nat.zero_add, Pm.I_ite, gexp_1]
      by_cases w : e = 2
      · rw [if_pos w, if_pos ⟨Nat.le_refl 1, w.symm⟩]
      · rw [if_neg w, if_neg fun h => w h.2.symm]
    · rw [if_neg z, Nat.add_zero]
      exact Pm.I_congr ⟨fun ⟨a, b⟩ => ⟨by omega, b⟩, fun ⟨a, b⟩ => ⟨by omega, b⟩⟩
  rw [Pm.S_congr e1, Pm.S_add, Pm.S_one, if_pos (by omega)]
/-- the greatest of the greatest exponents -/
theorem max_gexp {zs : List Nat} {M n m : Nat} (hz : ∀ x, x ∈ zs ↔ 1 ≤ x ∧ x ≤ M ∧ Pm.IsPow x) (h : n ≤ M) (n1 : 1 ≤ n) (hm : m ∈ (zs.filter fun x => decide (x ≤ n)).map gexp) (hmax : ∀ y ∈ (zs.filter fun x => decide (x ≤ n)).map gexp, y ≤ m) : Pm.Mst n m := by
  have mem : ∀ x, 1 ≤ x → x ≤ n → Pm.IsPow x → gexp x ≤ m := fun x a b c => hmax _ (List.mem_map.mpr ⟨x, List.mem_filter.mpr ⟨(hz x).mpr ⟨a, by omega, c⟩, decide_eq_true b⟩, rfl⟩)
  have m2 : 2 ≤ m := by
    have := mem 1 (Nat.le_refl 1) n1 ⟨1, 2, Nat.le_refl 2, rfl⟩
    rwa [gexp_1] at this
  refine ⟨m2, Nat.lt_of_not_le fun z => ?_, ?_⟩
  · have h2 : 2 ≤ 2 ^ (m + 1) := Nat.le_self_pow (by omega) 2
    have h1 := mem (2 ^ (m + 1)) (by omega) z ⟨2, m + 1, by omega, rfl⟩
    have h3 := gexp_ge (x := 2 ^ (m + 1)) h2 (show 2 ≤ m + 1 by omega) rfl
    omega
  · obtain ⟨x, hx, rfl⟩ := List.mem_map.mp hm
    obtain ⟨hx1, hx2⟩ := List.mem_filter.mp hx
    have hxn := of_decide_eq_true hx2
    obtain ⟨x1, _, _⟩ := (hz x).mp hx1
    by_cases z : x = 1
    · exact .inl (by rw [z]; exact gexp_1)
    · obtain ⟨c, c2, _, e⟩ := gexp_at (show 2 ≤ x by omega)
      refine .inr (Nat.le_trans ?_ hxn)
      conv => rhs; rw [← e]
      exact Nat.pow_le_pow_left c2 _
/-! ### a table of the exponents found -/
/-- the greatest exponent so far: bases below B, and B below E -/
structure GInv (ks : List Nat) (f : Nat → Nat) (M B E : Nat) : Prop where
  keys : Pm.PInv ks M B E
  lo : ∀ x ∈ ks, 2 ≤ x → ∃ c, 2 ≤ c ∧ 2 ≤ f x ∧ c ^ f x = x
  hi : ∀ x ∈ ks, ∀ c e, 2 ≤ c → 2 ≤ e → c ^ e = x → (c < B ∨ (c = B ∧ e < E)) → e ≤ f x
  one : f 1 = 2
theorem GInv.new (M : Nat) : GInv [1] (fun _ => 2) M 2 2 := ⟨Pm.PInv.new M, fun x hx h => by
    have : x = 1 := by simpa using hx
    omega, fun x hx c e h1 h2 h3 h4 => by omega, rfl⟩
theorem GInv.push {ks : List Nat} {f : Nat → Nat} {M B E : Nat} (h : GInv ks f M B E) (b2 : 2 ≤ B) (e2 : 2 ≤ E) (hv : B ^ E ≤ M) :
    GInv (mtAdd ks (B ^ E)) (fun x => if x = B ^ E then (if B ^ E ∈ ks then max (f x) E else E) else f x) M B (E + 1) := by
  have hp : 2 ≤ B ^ E := Nat.le_trans b2 (Nat.le_self_pow (by omega) B)
  refine ⟨h.keys.push b2 e2 hv, fun x hx x2 => ?_, fun x hx c e c2 e2' ec hce => ?_, ?_⟩
  · by_cases z : x = B ^ E
    · rw [if_pos z]
      by_cases w : B ^ E ∈ ks
      · rw [if_pos w]
        rcases Nat.le_total (f x) E with u | u
        · rw [Nat.max_eq_right u]
          exact ⟨B, b2, e2, z.symm⟩
        · rw [Nat.max_eq_left u]
          exact h.lo x (by rw [z]; exact w) x2
      · rw [if_neg w]
        exact ⟨B, b2, e2, z.symm⟩
    · rw [if_neg z]
      exact h.lo x ((mem_mtAdd.mp hx).resolve_right z) x2
  · by_cases z : x = B ^ E
    · show e ≤ if x = B ^ E then (if B ^ E ∈ ks then max (f x) E else E) else f x
      rw [if_pos z]
      by_cases u : c = B ∧ e = E
      · by_cases w : B ^ E ∈ ks
        · rw [if_pos w, u.2]
          exact Nat.le_max_right _ _
        · rw [if_neg w, u.2]
          exact Nat.le_refl _
      · have hce' : c < B ∨ (c = B ∧ e < E) := by omega
        have w : B ^ E ∈ ks := (h.keys _).mpr (.inr ⟨hv, c, e, c2, e2', ec.trans z, hce'⟩)
        rw [if_pos w]
        exact Nat.le_trans (h.hi x (by rw [z]; exact w) c e c2 e2' ec hce') (Nat.le_max_left _ _)
    · show e ≤ if x = B ^ E then (if B ^ E ∈ ks then max (f x) E else E) else f x
      rw [if_neg z]
      refine h.hi x ((mem_mtAdd.mp hx).resolve_right z) c e c2 e2' ec ?_
      by_cases u : c = B ∧ e = E
      · exact absurd (by rw [← ec, u.1, u.2]) z
      · omega
  · show (if 1 = B ^ E then (if B ^ E ∈ ks then max (f 1) E else E) else f 1) = 2
    rw [if_neg (by omega)]
    exact h.one
theorem GInv.next {ks : List Nat} {f : Nat → Nat} {M B E : Nat} (h : GInv ks f M B E) (b2 : 2 ≤ B) (hv : M < B ^ E) : GInv ks f M (B + 1) 2 := by
  refine ⟨h.keys.next b2 hv, h.lo, fun x hx c e c2 e2 ec hce => ?_, h.one⟩
  refine h.hi x hx c e c2 e2 ec ?_
  by_cases w : c = B
  · refine .inr ⟨w, Nat.lt_of_not_le fun z => ?_⟩
    have h6 := Nat.pow_le_pow_right (show 0 < B by omega) z
    have hxM : x ≤ M ∨ x = 1 := by
      rcases (h.keys x).mp hx with u | ⟨u, _⟩
      · exact .inr u
      · exact .inl u
    have : x = B ^ e := by rw [← ec, w]
    have h7 : 2 ≤ B ^ e := Nat.le_trans b2 (Nat.le_self_pow (by omega) B)
    omega
  · omega
theorem GInv.done {ks : List Nat} {f : Nat → Nat} {M : Nat} (h : GInv ks f M (M + 1) 2) (hM : 1 ≤ M) : ∀ x ∈ ks, f x = gexp x := fun x hx => by
  obtain ⟨x1, xM, xp⟩ := (h.keys.done hM x).mp hx
  by_cases z : x = 1
  · rw [z, h.one, gexp_1]
  · have x2 : 2 ≤ x := by omega
    obtain ⟨c, c2, f2, e⟩ := h.lo x hx x2
    refine Nat.le_antisymm (gexp_ge x2 f2 e) ?_
    obtain ⟨b, b2, _, eb⟩ := gexp_at x2
    have g2 := (gexp_pow x1).mp xp
    have : b ≤ x := by
      conv => rhs; rw [← eb]
      exact Nat.le_self_pow (by omega) b
    exact h.hi x hx b _ b2 g2 eb (.inl (by omega))
/-- a table: the keys ks, at each the number f -/
def FT (H : Hp) (d : Addr) (ks : List Nat) (f : Nat → Nat) : Prop := ks.Nodup ∧ ∃ kvs : List (Key × V), H d = some (.dK kvs) ∧ kvs = ks.map fun k : Nat => ((Sum.inl (k : Int) : Key), V.int ((f k : Nat) : Int))
theorem FT.same {H H' : Hp} {d : Addr} {ks : List Nat} {f : Nat → Nat} (h : FT H d ks f) (s : Same H H') : FT H' d ks f := by
  obtain ⟨h0, kvs, h1, h2⟩ := h
  exact ⟨h0, kvs, s _ _ h1, h2⟩
theorem ft_val (f : Nat → Nat) (k : Nat) : ∀ ks : List Nat, valV (ks.map fun k : Nat => ((Sum.inl (k : Int) : Key), V.int ((f k : Nat) : Int))) (.inl (k : Int)) = if k ∈ ks then some (.int ((f k : Nat) : Int)) else none
  | [] => rfl
  | x :: ks => by
    rw [List.map_cons]
    by_cases e : k = x
    · subst e
      rw [valV_pos rfl, if_pos (List.mem_cons_self ..)]
    · have ne : ¬ ((Sum.inl (x : Int) : Key) = .inl (k : Int)) := fun z => e (by have := Sum.inl.inj z; omega)
      rw [valV_neg ne, ft_val f k ks]
      by_cases m : k ∈ ks
      · rw [if_pos m, if_pos (List.mem_cons_of_mem _ m)]
      · rw [if_neg m, if_neg fun z => m ((List.mem_cons.mp z).resolve_left e)]
theorem FT.isD {H : Hp} {d : Addr} {ks : List Nat} {f : Nat → Nat} (h : FT H d ks f) : IsD H d := by
  obtain ⟨_, kvs, h1, _⟩ := h
  exact .inl ⟨kvs, Rd.of h1⟩
theorem FT.get {H : Hp} {d : Addr} {ks : List Nat} {f : Nat → Nat} (h : FT H d ks f) (k : Nat) : DGet H d (.int (k : Int)) (if k ∈ ks then some (.int ((f k : Nat) : Int)) else none) := by
  obtain ⟨_, kvs, h1, rfl⟩ := h
  rw [← ft_val]
  exact DGet.k (k := .inl (k : Int)) h1
theorem FT.put {H : Hp} {d : Addr} {ks : List Nat} {f : Nat → Nat} {D : Hp → Prop} (h : FT H d ks f) (hN : ks.length < 1000000) (k0 v : Nat)
    (q : ∀ H', Keep d H H' → FT H' d (mtAdd ks k0) (fun x => if x = k0 then v else f x) → D H') : ∃ H', DPut H d (.int (k0 : Int)) (.int (v : Int)) H' ∧ D H' := by
  obtain ⟨h0, kvs, h1, h2⟩ := h
  refine ⟨_, DPut.k (k := .inl (k0 : Int)) h1 (Nat.lt_of_lt_of_le (by rw [h2, List.length_map]; exact hN) (by decide)), q _ Keep.upd ⟨mtAdd_nd h0 k0, _, upd_same, ?_⟩⟩
  subst h2
  unfold mtAdd
  by_cases m : k0 ∈ ks
  · rw [if_pos m]
    unfold putK
    rw [valV_any, ft_val, if_pos m, Option.isSome_some, if_pos rfl, List.map_map]
    refine List.map_congr_left fun x _ => ?_
    show (if (Sum.inl (x : Int) : Key) = .inl (k0 : Int) then ((Sum.inl (x : Int) : Key), V.int (v : Int)) else ((Sum.inl (x : Int) : Key), V.int ((f x : Nat) : Int))) = _
    by_cases e : x = k0
    · subst e
      rw [if_pos rfl]
      show _ = ((Sum.inl (x : Int) : Key), V.int (((if x = x then v else f x) : Nat) : Int))
      rw [if_pos rfl]
    · rw [if_neg (fun z => e (by have := Sum.inl.inj z; omega))]
      show _ = ((Sum.inl (x : Int) : Key), V.int (((if x = k0 then v else f x) : Nat) : Int))
      rw [if_neg e]
  · rw [if_neg m, putK_new _ (by rw [ft_val, if_neg m]), List.map_append]
    congr 1
    · refine List.map_congr_left fun x hx => ?_
      show _ = ((Sum.inl (x : Int) : Key), V.int (((if x = k0 then v else f x) : Nat) : Int))
      rw [if_neg (fun e : x = k0 => m (e ▸ hx))]
    · show _ = [((Sum.inl (k0 : Int) : Key), V.int (((if k0 = k0 then v else f k0) : Nat) : Int))]
      rw [if_pos rfl]
section
variable {σ : L2.St} {tt : TT} {te : TE} {g : TG} {vs : List Nat}
theorem lc_keys {d D : Addr} {od : Obj} {kvs : List (Key × V)} {H1 : Hp} {Qd : Hp → Prop} (Pv : Nat → Hp → Prop) (h0 : Pv 0 (upd H1 D (.lst []))) (hl : ∀ i H, Pv i H → H d = some (.frz od (.dK kvs)))
    (hs : ∀ i k v H, kvs[i]? = some (k, v) → Pv i H → g (kV k) (wipe σ vs) H fun σ2 H2 => wipe σ2 vs = wipe σ vs ∧ tt σ2 H2 fun b H3 =>
      if b = true then te σ2 H3 fun y H4 => ∃ acc, H4 D = some (.lst acc) ∧ acc.length < sizeLine ∧ Pv (i + 1) (upd H4 D (.lst (acc ++ [y]))) else Pv (i + 1) H3) (hd : ∀ H, Pv kvs.length H → Qd H) :
    ∃ W : Nat → Nat → Hp → Prop, (∃ m, W 0 m (upd H1 D (.lst []))) ∧ ∀ i m H, W i m H →
      ((Itk d od kvs).stop i H ∧ Qd H) ∨ ((Itk d od kvs).go i H ∧ ∃ Nx : Hp → Prop, (∀ H', Nx H' → ∃ m', m' < m ∧ W (i + 1) m' H') ∧ ∀ x H', (Itk d od kvs).yld i H x H' → g x (wipe σ vs) H' fun σ2 H2 => wipe σ2 vs = wipe σ vs ∧ tt σ2 H2 fun b H3 =>
        if b = true then te σ2 H3 fun y H4 => ∃ acc, H4 D = some (.lst acc) ∧ acc.length < sizeLine ∧ Nx (upd H4 D (.lst (acc ++ [y]))) else Nx H3) := by
  refine ⟨fun i m H => m = kvs.length - i ∧ i ≤ kvs.length ∧ Pv i H, ⟨kvs.length, by simp, Nat.zero_le _, h0⟩, ?_⟩
  rintro i m H ⟨rfl, hi, p⟩
  by_cases hlt : i < kvs.length
  · refine .inr ⟨⟨hl i H p, hlt⟩, Pv (i + 1), fun H' p' => ⟨kvs.length - (i + 1), by omega, rfl, hlt, p'⟩, fun x H' y => ?_⟩
    obtain ⟨e, k, v, hk, hx⟩ := y
    subst e hx
    exact hs i k v _ hk p
  · have e : i = kvs.length := by omega
    subst e
    exact .inl ⟨⟨hl _ H p, Nat.le_refl _⟩, hd H p⟩
end
end Pw

namespace Pw
open PySem PySem.Spec PyProof.Rows L2 SX TL
def spIsTuple : Sp := fun vs H Q _ => ∃ (p q : Addr) (ns : List Int), vs = [.ref p, .ref q] ∧ H p = some (.tup (ns.map V.int)) ∧ H q = some (.lst (ns.map V.int)) ∧ ∀ H', Same H H' → Q (.bl true) H'
def spNear9 : Sp := fun vs H Q _ => ∃ M : Nat, vs = [.int (M : Int)] ∧ 1 ≤ M ∧ M ≤ 3000 ∧ ∀ (ks : List Nat) (d : Addr) (H' : Hp), H d = none → Same H H' → FT H' d ks gexp → (∀ x, x ∈ ks ↔ 1 ≤ x ∧ x ≤ M ∧ Pm.IsPow x) → Q (.ref d) H'
def spDue9 : Sp := fun vs H Q _ => ∃ (n : Nat) (p : Addr), vs = [.int (n : Int), .ref p] ∧ 1 ≤ n ∧ n ≤ 10 ^ 40 ∧ H p = some (.lst ((sgRow 139).map V.int)) ∧ ∀ (M : Nat) (q : Addr) (H' : Hp), Pm.Mst n M → H q = none → Same H H' → H' q = some (.lst (nn (Pm.cgl n M))) → Q (.ref q) H'
theorem FT.congr {H : Hp} {d : Addr} {ks : List Nat} {f g : Nat → Nat} (h : FT H d ks f) (e : ∀ x ∈ ks, f x = g x) : FT H d ks g := by
  obtain ⟨h0, kvs, h1, h2⟩ := h
  refine ⟨h0, kvs, h1, h2.trans (List.map_congr_left fun x hx => ?_)⟩
  rw [e x hx]
theorem ft_at {ks : List Nat} {f : Nat → Nat} {i : Nat} {k : Key} {v : V} (h : (ks.map fun k : Nat => ((Sum.inl (k : Int) : Key), V.int ((f k : Nat) : Int)))[i]? = some (k, v)) : ∃ x : Nat, ks[i]? = some x ∧ k = .inl (x : Int) ∧ v = .int ((f x : Nat) : Int) := by
  rw [List.getElem?_map] at h
  cases e : ks[i]? with
  | none => rw [e] at h; cases h
  | some x =>
    rw [e] at h
    cases h
    exact ⟨x, rfl, rfl, rfl⟩
theorem lockSame {H H8 : Hp} {d : Addr} {u : HO} {od : Obj} (h : H d = some u) (s : Same (upd H d (.frz od u)) H8) : Same H (upd H8 d u) := fun b o e => by
  by_cases z : b = d
  · subst z
    rw [upd_same, ← h, e]
  · rw [upd_ne z]
    exact s b o (by rw [upd_ne z]; exact e)
section
variable {t : TS} {σ : L2.St} {H : Hp} {D : Ends} {te : TE} {Q : VK}
theorem r_lock {d : Addr} {u : HO} (h : H d = some u) (m : Mut (some u)) (q : ∀ od, t ⟨fun σ' H' => H' d = some (.frz od u) ∧ D.nx σ' (upd H' d u), fun v H' => H' d = some (.frz od u) ∧ D.rt v (upd H' d u), fun σ' H' => H' d = some (.frz od u) ∧ D.bk σ' (upd H' d u), fun σ' H' => H' d = some (.frz od u) ∧ D.ct σ' (upd H' d u)⟩ σ (upd H d (.frz od u))) : tLock t D σ H := ⟨d, u, h, m, q⟩
theorem r_lockE {d : Addr} {u : HO} (h : H d = some u) (m : Mut (some u)) (q : ∀ od, te σ (upd H d (.frz od u)) fun v H' => H' d = some (.frz od u) ∧ Q v (upd H' d u)) : tLockE te σ H Q := ⟨d, u, h, m, q⟩
theorem r_iKeys {td : TE} {R : It → Hp → Prop} (h : td σ H fun x H1 => ∃ d o, x = .ref d ∧ ((∃ kvs, H1 d = some (.frz o (.dK kvs)) ∧ R (Itk d o kvs) H1) ∨ ∃ kvs, H1 d = some (.frz o (.dT kvs)) ∧ R (Itkt d o kvs) H1)) : iKeys td σ H R := h
theorem r_max {K : PySem.W.Frag} {a : Addr} {ns : List Int} (h : SqL K H a (ns.map V.int)) (hl : 0 < ns.length) (q : ∀ m, m ∈ ns → (∀ y, y ∈ ns → y ≤ m) → Q (.int m) H) : rMax K [.ref a] H Q := ⟨a, ns, rfl, h, hl, q⟩
theorem r_min {K : PySem.W.Frag} {a : Addr} {ns : List Int} (h : SqL K H a (ns.map V.int)) (hl : 0 < ns.length) (q : ∀ m, m ∈ ns → (∀ y, y ∈ ns → m ≤ y) → Q (.int m) H) : rMin K [.ref a] H Q := ⟨a, ns, rfl, h, hl, q⟩
theorem r_cntI {K : PySem.W.Frag} {a : Addr} {ns : List Int} {k : Int} (h : SqL K H a (ns.map V.int)) (q : Q (.int (ns.count k : Nat)) H) : rCntI K (.ref a) [.int k] H Q := ⟨a, ns, k, rfl, rfl, h, q⟩
end
theorem cast_count (k : Nat) : ∀ L : List Nat, (L.map fun x : Nat => (x : Int)).count (k : Int) = L.count k
  | [] => rfl
  | x :: L => by
    rw [List.map_cons, List.count_cons, List.count_cons, cast_count k L]
    by_cases e : x = k
    · subst e
      simp
    · have : ¬ (x : Int) = (k : Int) := fun z => e (by omega)
      simp [e, this]
theorem cgl_ne {n M : Nat} (h : 2 ≤ M) : ∃ r, Pm.cgl n M = (Pm.Nn n 2 + 1) :: r := by
  unfold Pm.cgl
  obtain ⟨k, rfl⟩ : ∃ k, M = k + 2 := ⟨M - 2, by omega⟩
  rw [show k + 2 - 1 = k + 1 by omega, List.range_succ_eq_map, List.map_cons]
  exact ⟨_, rfl⟩
theorem pe_cntB {X : Cx} {s : Shared} {H : Hp} {sc : Scope} {ev : Env} {fp : List Addr} {o e : Expr} {es : List Expr} {to : TE} {t : TA} {apos cpos : Pos} (ho : PE (X.blk s H sc ev fp) o to) (ha : PA (X.blk s H sc ev fp) (e :: es) t)
    (hbase : attributeBase o "count" (X.blk s H sc ev fp).env (eval o (X.blk s H sc ev fp).env) = eval o (X.blk s H sc ev fp).env := by rfl)
    (hfew : ((backTo cpos (starEach (e :: es) (X.blk s H sc ev fp).env)).all (fun x => !x.1) && (backToKw cpos (keywordEach [] (X.blk s H sc ev fp).env)).all (fun x => x.1.isSome)
      && decide ((e :: es).length + ([] : List Keyword).length + (if ([] : List Keyword).isEmpty then 0 else 1) < 30)) = true := by rfl)
    (hline : (apos.endLine == cpos.line) = true := by rfl) (hs : starEach (e :: es) (X.blk s H sc ev fp).env = (false, eval e (X.blk s H sc ev fp).env) :: starEach es (X.blk s H sc ev fp).env := by rfl) (hplain : (backTo cpos (starEach es (X.blk s H sc ev fp).env)).any (·.1) = false := by rfl) :
    PE (X.blk s H sc ev fp) (.Call (.Attribute o "count" apos) (e :: es) [] cpos) (tBM X.K "list" (rCntI X.K) to t) :=
  pe_bm PySem.F.plainAttrs_list PySem.F.slot_list_count PySem.F.type_list_count mt_lcount ho ha hbase hfew hline hs hplain
theorem cnt27 {n : Nat} (h : n ≤ 27) : Pm.cntP n = ([1, 4, 8, 9, 16, 25, 27].filter fun x => decide (x ≤ n)).length := (Pm.cnt_filter (by decide) Pm.near27 h).symm
theorem cg3 : CG 3 [1] := by
  refine .inr ⟨by decide, 2, ⟨by decide, by decide, .inl rfl⟩, ?_⟩
  show [1] = [Pm.Nn 3 2 + 1]
  rw [Pm.Nn_zero (n := 3) (K := 2) (by decide) (by decide)]
theorem cg16 : CG 16 [3, 1, 1] := by
  refine .inr ⟨by decide, 4, ⟨by decide, by decide, .inr (by decide)⟩, ?_⟩
  show [3, 1, 1] = [Pm.Nn 16 2 + 1, Pm.Nn 16 3, Pm.Nn 16 4]
  have h2 := Pm.Nn_root (n := 16) (e := 2) (r := 4) (by decide) (by decide) ⟨by decide, by decide⟩
  have h3 := Pm.Nn_root (n := 16) (e := 3) (r := 2) (by decide) (by decide) ⟨by decide, by decide⟩
  have h4 := Pm.Nn_root (n := 16) (e := 4) (r := 2) (by decide) (by decide) ⟨by decide, by decide⟩
  have c4 : Pm.cntP 4 = 2 := (cnt27 (by decide)).trans (by decide)
  have c2 : Pm.cntP 2 = 1 := (cnt27 (by decide)).trans (by decide)
  rw [show Pm.Nn 16 2 = 2 by omega, show Pm.Nn 16 3 = 1 by omega, show Pm.Nn 16 4 = 1 by omega]
end Pw

/-! ### enumerate(tuple) -/
namespace Pw
open PySem PySem.Spec PyProof.Rows L2
open AutoSeq1 (wpAny_loadPart')
theorem meets_enumerate_newT (l : Addr) (items : Array Value) (n : Nat) (dct : Option Addr) (sl : Array (Option Value)) :
    Meets (Builtin.«enumerate.__new__» ⟨[.type "enumerate", .ref l], []⟩) (fun _ R s => s.heap.get? l = some { cls := .type "tuple", dict := dct, data := .seq items n, slots := sl } ∧
      R (.ok (.ret (.ref (s.heap.push { cls := .type "tuple_iterator", data := .fields #[.ref l, .int 0 0] }).objs.size)))
        { s with heap := (s.heap.push { cls := .type "tuple_iterator", data := .fields #[.ref l, .int 0 0] }).push { cls := .type "enumerate", data := .fields #[.none, .bool false, .ref s.heap.objs.size, rawInt 0, .none, .none] } }) :=
  .of_wp fun prog w A R s h => by
    obtain ⟨hp, g, d, tk, os⟩ := s; obtain ⟨hl, h⟩ := h
    have hsub := sub_enumerate
    have hL : Heap.IsTuple (Shared.heap ⟨hp, g, d, tk, os⟩) l items := ⟨_, hl, rfl, n, rfl⟩
    wp_walk using wpAny_loadPart' hl
    refine wpAny_stack_any fun st => wpAny_pure ?_
    split
    · rename_i c _ _ _ _ _
      cases (c == Value.type "enumerate")
      · wp_walk using wpAny_loadPart' hl, wpAny_pyIter_tuple hL
        exact ⟨_, rfl, h⟩
      · wp_walk using wpAny_loadPart' hl, wpAny_pyIter_tuple hL
        exact ⟨_, rfl, h⟩
    · wp_walk using wpAny_loadPart' hl, wpAny_pyIter_tuple hL
      exact ⟨_, rfl, h⟩
section
variable {prog : Program} {w : World} {A : Around} {E : Value → Shared → Prop} {s : Shared}
theorem call_enumerate_tuple {l : Addr} {items : Array Value} {Q : Value → Shared → Prop} (hL : s.heap.IsTuple l items)
    (h : ∀ h', IsEnum h' (s.heap.objs.size + 1) s.heap.objs.size 0 .none → h'.IsTupleIter s.heap.objs.size l 0 → h'.objs.size = s.heap.objs.size + 2 →
      (∀ b o, s.heap.get? b = some o → h'.get? b = some o) → Q (.ref (s.heap.objs.size + 1)) { s with heap := h' }) :
    wpAny (model prog w) A (call (.type "enumerate") [.ref l]) Q E s := by
  obtain ⟨⟨c, dct, dt, sl⟩, hl, hc, n, hd⟩ := hL
  replace hc : c = .type "tuple" := hc
  replace hd : dt = .seq items n := hd
  subst hc hd
  refine callType_new F.called_enumerate (by decide) (F.typeCall_enumerate_1 _) (F.newCall_enumerate_1 _) (fun obj => F.args_object_init_2 obj _) F.entry_enumerate_new
    (meets_enumerate_newT l items n dct sl) ⟨hl, ?_⟩
  have hz : (s.heap.push { cls := .type "tuple_iterator", data := .fields #[.ref l, .int 0 0] }).objs.size = s.heap.objs.size + 1 := Heap.size_push ..
  show _ ∧ _
  rw [hz]
  have he : IsEnum ((s.heap.push { cls := .type "tuple_iterator", data := .fields #[.ref l, .int 0 0] }).push
      { cls := .type "enumerate", data := .fields #[.none, .bool false, .ref s.heap.objs.size, rawInt 0, .none, .none] }) (s.heap.objs.size + 1) s.heap.objs.size 0 .none := by
    have := Heap.get?_push_size (s.heap.push { cls := .type "tuple_iterator", data := .fields #[.ref l, .int 0 0] })
      (o := { cls := .type "enumerate", data := .fields #[.none, .bool false, .ref s.heap.objs.size, rawInt 0, .none, .none] }) rfl
    rw [hz] at this; exact this
  refine ⟨⟨_, he, rfl⟩, h _ he ⟨_, Heap.get?_push_of_some _ (Heap.get?_push_size _ rfl), rfl, rfl⟩ (by rw [Heap.size_push, hz]) fun b o x => Heap.get?_push_of_some _ (Heap.get?_push_of_some _ x)⟩
end
section
variable {prog : Program} {w : World} {A : Around} {E : Value → Shared → Prop} {s : Shared}
theorem wpAny_pyNext_enum_endT {e it l : Addr} {i : Int} {j : Nat} {items : Array Value} {old : Value} {Q : Option Value → Shared → Prop} (hh : A.handled = none)
    (he : IsEnum s.heap e it i old) (hit : s.heap.IsTupleIter it l j) (hl : s.heap.IsTuple l items) (hx : items[j]? = none)
    (hQ : ∀ h', Heap.ExtBut it s.heap h' → Q none { s with heap := h' }) : wpAny (model prog w) A (pyNext (.ref e)) Q E s := by
  have hT : s.TypeIs (.ref e) "enumerate" := ⟨_, he, rfl⟩
  unfold pyNext
  refine wpAny_bind (wpAny_attempt (wpAny_callSpecial?_slot (name := Str.ofString "__next__") hT F.slot_enumerate_next
    (wpAny_call_entry F.slot_enumerate_next hT F.entry_enumerate_next ?_ (F.args_enumerate_next_1 _))))
  show wpAny _ _ (field (.ref e) 2 >>= _) _ _ _
  refine wpAny_bind (wpAny_field he rfl (x := .ref it) rfl ?_)
  refine wpAny_bind (wpAny_nextOf_tuple_end hh hit hl hx fun h' x he' hx' => ?_)
  obtain ⟨o, ho, hc⟩ := hx'
  refine wpAny_bind (wpAny_isInstance (T := "StopIteration") (b := true) ⟨o, ho, hc⟩ isSubtype_stop ?_)
  exact wpAny_pure (hQ _ he')
end
def IteT (K : PySem.W.Frag) (a : Addr) : It :=
  ⟨fun i H => ∃ (xs : List V) (x : V), SqT K H a xs ∧ xs[i]? = some x, fun i H v H' => ∃ T x, v = .ref T ∧ H T = none ∧ H' = upd H T (.tup [.int (i : Nat), x]) ∧ ∀ xs, SqT K H a xs → xs[i]? = some x, fun i H => ∃ xs : List V, SqT K H a xs ∧ xs.length ≤ i⟩
theorem turn_enumT {P : Program} {w : World} {K : PySem.W.Frag} {elts : List Expr} {kk : Nat} {tpos : Pos} (a e it : Addr) :
    Turn P w K (.Tuple elts kk tpos) (IteT K a) [e, it] e (fun i h => (∃ old, IsEnum h e it ((i : Nat) : Int) old) ∧ h.IsTupleIter it a i ∧ e ≠ it ∧ a ≠ e ∧ a ≠ it) where
  mem := by simp
  obj := fun i h st b hb => by
    obtain ⟨⟨old, he⟩, ⟨o, ho, hc, hd⟩, _⟩ := st
    have e' : b = e ∨ b = it := by simpa using hb
    rcases e' with z | z
    · rw [z]; exact ⟨_, he, fun v q => nomatch q⟩
    · rw [z]; exact ⟨o, ho, fun v q => by rw [hd] at q; cases q⟩
  keep := fun i h h' st k => let ⟨⟨old, he⟩, hi, hne⟩ := st; ⟨⟨old, k e (by simp) _ he⟩, hi.at fun o q => k it (by simp) o q, hne⟩
  item := by
    intro X hP hw hK hc i pins s σ H E I hf st hg
    subst hP hw hK
    obtain ⟨⟨old, he⟩, hit, hne, hae, hai⟩ := st
    obtain ⟨xs, x, hq, hx⟩ := hg
    obtain ⟨its, rv, p, hz⟩ := I.tuple hq
    obtain ⟨u, hu, ru⟩ := rv.get hx
    have hel : e < s.heap.objs.size := Heap.lt_size he
    have hil : it < s.heap.objs.size := by obtain ⟨_, q, _⟩ := hit; exact Heap.lt_size q
    have hul : i < its.toArray.size := by
      have := (List.getElem?_eq_some_iff.mp hu).1
      simpa using this
    refine wpAny_pyNext_enum_itemD (Draws.tuple (A := X.A.in1) (I.ok.hd hc) it a hai its.toArray) he ⟨hit, p⟩ hul hne (by simp [hne, Ne.symm hae]) fun x' h' tk hPx ho hit' hT hsz hk => ?_
    have hxu : x' = u := by
      have h1 : its.toArray[i]? = some u := by simpa using hu
      rw [h1] at hPx
      exact (Option.some.inj hPx).symm
    subst hxu
    refine ⟨_, rfl, wpAny_letOwnedTupleGo_enum (s := { s with heap := h', toks := tk + 1 }) ho fun h'' he' sb => ?_⟩
    have hT2 : h''.get? s.heap.objs.size = some { cls := .type "tuple", data := .seq #[.int i tk, x'] } := (sb.2 _ (Nat.ne_of_gt hel)).trans hT
    have new : ObjOk X.prog X.w (upd H s.heap.objs.size (.tup [.int (i : Nat), x])) h'' s.heap.objs.size (.tup [.int (i : Nat), x]) :=
      ⟨by show 2 ≤ sizeLine; decide, [.int i tk, x'], .cons ⟨_, rfl⟩ (.cons ru .nil), ⟨_, hT2, rfl, _, rfl⟩⟩
    have I1 : Inv X pins σ (upd H s.heap.objs.size (.tup [.int (i : Nat), x])) { s with heap := h'', toks := tk + 1 } :=
      I.turnedNew (ch := [e, it]) (fun b ob hb q => (sb.2 b (fun z => hb (by simp [z]))).trans (hk b ob (fun z => hb (by simp [z])) (fun z => hb (by simp [z])) q)) hf (Nat.le_refl _) new
    refine ⟨.ref s.heap.objs.size, _, I1, rfl, ⟨_, x, rfl, I.hok.fresh (Nat.le_refl _), rfl, fun ys hy => by rw [I.tuple_inj hy hq]; exact hx⟩, ⟨⟨x', ?_⟩, hit'.1.at fun o q => (sb.2 it (Ne.symm hne)).trans q, hne, hae, hai⟩, fun b hb => ?_⟩
    · have e1 : ((i + 1 : Nat) : Int) = (i : Int) + 1 := by omega
      rw [e1]; exact he'
    · have hb' : b < s.heap.objs.size := by
        have e' : b = e ∨ b = it := by simpa using hb
        rcases e' with z | z
        · rw [z]; exact hel
        · rw [z]; exact hil
      rw [upd_ne (Nat.ne_of_lt hb')]
      exact (hf b hb).1
  done := by
    intro X hP hw hK hc i pins s σ H E I hf st hg
    subst hP hw hK
    obtain ⟨⟨old, he⟩, hit, hne, hae, hai⟩ := st
    obtain ⟨xs, hq, hx⟩ := hg
    obtain ⟨its, rv, p, hz⟩ := I.tuple hq
    obtain ⟨f0, f1, f2, f3, f4, f5⟩ := hf it (by simp)
    have hl := rv.length
    exact wpAny_pyNext_enum_endT (I.ok.hd hc) he hit p (by simp; omega) fun h' eb => ⟨rfl, I.turned (t' := s.toks) (fun b o hb q => eb b o hb q) f0 f1 f3 f4 f5⟩
  self := fun A i s Q E st h => let ⟨⟨_, he⟩, _⟩ := st; wpAny_pyIter_enum he h
def iEnumT (K : PySem.W.Frag) (ta : TA) : TI := fun σ H R => ta σ H fun vs H1 => ∃ a xs, vs = [.ref a] ∧ SqT K H1 a xs ∧ R (IteT K a) H1
theorem pi_enumT {X : Cx} {e : Expr} {ta : TA} {p pos tpos : Pos} {elts : List Expr} {kk : Nat} (hg : Gl X "enumerate") (hm : X.mg "enumerate" = none) (ha : PA X [e] ta) (hs : starEach [e] X.env = [(false, eval e X.env)] := by rfl) :
    PI X (.Tuple elts kk tpos) (.Call (.Name "enumerate" p) [e] [] pos) (iEnumT X.K ta) := by
  refine ⟨fun pins s σ H R I h => ?_⟩
  refine Call_ (ld_blt I hg hm boot_enumerate (PyProof.Rows.callWith_type1 (thn (ha.run pos pins s σ H _ I h) fun us s1 ⟨vs, H1, I1, r1, q1⟩ => ?_) hs rfl))
  obtain ⟨a, xs, ex, hq, q⟩ := q1
  subst ex
  cases r1 with
  | cons r rr =>
    cases rr
    cases r
    obtain ⟨its, rv, p', hz⟩ := I1.tuple hq
    have hal : a < s1.heap.objs.size := by obtain ⟨_, q, _⟩ := p'; exact Heap.lt_size q
    refine call_enumerate_tuple p' fun h' he hit hsz hk => wpAny_pyIter_enum he ?_
    have I2 : Inv X pins σ H1 { s1 with heap := h' } := I1.kept (t' := s1.toks) hk
    refine ⟨s1.heap.objs.size + 1, [s1.heap.objs.size + 1, s1.heap.objs.size], _, _, H1, rfl, I2, turn_enumT a (s1.heap.objs.size + 1) s1.heap.objs.size, ⟨⟨.none, he⟩, hit, Nat.succ_ne_self _, Nat.ne_of_lt (Nat.lt_succ_of_lt hal), Nat.ne_of_lt hal⟩, fun b hb => ?_, q⟩
    have e' : b = s1.heap.objs.size + 1 ∨ b = s1.heap.objs.size := by simpa using hb
    have hle : s1.heap.objs.size ≤ b := by
      rcases e' with z | z
      · rw [z]; exact Nat.le_add_right _ _
      · rw [z]; exact Nat.le_refl _
    exact I1.fpOk hle (I1.hok.fresh hle)
section
variable {K : PySem.W.Frag} {σ : L2.St} {tt : TT} {te : TE} {g : TG} {vs : List Nat}
theorem r_enumT {tr : TA} {σ : L2.St} {H : Hp} {R : It → Hp → Prop} (h : tr σ H fun vs H1 => ∃ a xs, vs = [.ref a] ∧ SqT K H1 a xs ∧ R (IteT K a) H1) : iEnumT K tr σ H R := h
theorem r_enumL {tr : TA} {σ : L2.St} {H : Hp} {R : It → Hp → Prop} (h : tr σ H fun vs H1 => ∃ a xs, vs = [.ref a] ∧ SqL K H1 a xs ∧ R (Ite K a) H1) : iEnum K tr σ H R := h
/-- a comprehension over enumerate: each turn's pair is new -/
theorem lc_enumT {a D : Addr} {xs : List V} {H1 : Hp} {Qd : Hp → Prop} (Pv : Nat → Hp → Prop) (h0 : Pv 0 (upd H1 D (.lst []))) (hl : ∀ i H, i ≤ xs.length → Pv i H → H a = some (.tup xs)) (hk : ∀ i H p x, H p = none → Pv i H → Pv i (upd H p (.tup x)))
    (hs : ∀ i x H p, xs[i]? = some x → Pv i H → H p = some (.tup [.int (i : Nat), x]) → g (.ref p) (wipe σ vs) H fun σ2 H2 => wipe σ2 vs = wipe σ vs ∧ tt σ2 H2 fun b H3 =>
      if b = true then te σ2 H3 fun y H4 => ∃ acc, H4 D = some (.lst acc) ∧ acc.length < sizeLine ∧ Pv (i + 1) (upd H4 D (.lst (acc ++ [y]))) else Pv (i + 1) H3) (hd : ∀ H, Pv xs.length H → Qd H) :
    ∃ W : Nat → Nat → Hp → Prop, (∃ m, W 0 m (upd H1 D (.lst []))) ∧ ∀ i m H, W i m H →
      ((IteT K a).stop i H ∧ Qd H) ∨ ((IteT K a).go i H ∧ ∃ Nx : Hp → Prop, (∀ H', Nx H' → ∃ m', m' < m ∧ W (i + 1) m' H') ∧ ∀ x H', (IteT K a).yld i H x H' → g x (wipe σ vs) H' fun σ2 H2 => wipe σ2 vs = wipe σ vs ∧ tt σ2 H2 fun b H3 =>
        if b = true then te σ2 H3 fun y H4 => ∃ acc, H4 D = some (.lst acc) ∧ acc.length < sizeLine ∧ Nx (upd H4 D (.lst (acc ++ [y]))) else Nx H3) := by
  refine ⟨fun i m H => m = xs.length - i ∧ i ≤ xs.length ∧ Pv i H, ⟨xs.length, by simp, Nat.zero_le _, h0⟩, ?_⟩
  rintro i m H ⟨rfl, hi, p⟩
  have ha := hl i H hi p
  by_cases hlt : i < xs.length
  · refine .inr ⟨⟨xs, xs[i], SqT.of ha, List.getElem?_eq_getElem hlt⟩, Pv (i + 1), fun H' p' => ⟨xs.length - (i + 1), by omega, rfl, hlt, p'⟩, fun x H' y => ?_⟩
    obtain ⟨T, x', rfl, nT, rfl, hx⟩ := y
    exact hs i x' _ T (hx xs (SqT.of ha)) (hk i H T _ nT p) upd_same
  · have e : i = xs.length := by omega
    subst e
    exact .inl ⟨⟨xs, SqT.of ha, Nat.le_refl _⟩, hd H p⟩
theorem lc_enumL {a D : Addr} {xs : List V} {H1 : Hp} {Qd : Hp → Prop} (Pv : Nat → Hp → Prop) (h0 : Pv 0 (upd H1 D (.lst []))) (hl : ∀ i H, i ≤ xs.length → Pv i H → H a = some (.lst xs)) (hk : ∀ i H p x, H p = none → Pv i H → Pv i (upd H p (.tup x)))
    (hs : ∀ i x H p, xs[i]? = some x → Pv i H → H p = some (.tup [.int (i : Nat), x]) → g (.ref p) (wipe σ vs) H fun σ2 H2 => wipe σ2 vs = wipe σ vs ∧ tt σ2 H2 fun b H3 =>
      if b = true then te σ2 H3 fun y H4 => ∃ acc, H4 D = some (.lst acc) ∧ acc.length < sizeLine ∧ Pv (i + 1) (upd H4 D (.lst (acc ++ [y]))) else Pv (i + 1) H3) (hd : ∀ H, Pv xs.length H → Qd H) :
    ∃ W : Nat → Nat → Hp → Prop, (∃ m, W 0 m (upd H1 D (.lst []))) ∧ ∀ i m H, W i m H →
      ((Ite K a).stop i H ∧ Qd H) ∨ ((Ite K a).go i H ∧ ∃ Nx : Hp → Prop, (∀ H', Nx H' → ∃ m', m' < m ∧ W (i + 1) m' H') ∧ ∀ x H', (Ite K a).yld i H x H' → g x (wipe σ vs) H' fun σ2 H2 => wipe σ2 vs = wipe σ vs ∧ tt σ2 H2 fun b H3 =>
        if b = true then te σ2 H3 fun y H4 => ∃ acc, H4 D = some (.lst acc) ∧ acc.length < sizeLine ∧ Nx (upd H4 D (.lst (acc ++ [y]))) else Nx H3) := by
  refine ⟨fun i m H => m = xs.length - i ∧ i ≤ xs.length ∧ Pv i H, ⟨xs.length, by simp, Nat.zero_le _, h0⟩, ?_⟩
  rintro i m H ⟨rfl, hi, p⟩
  have ha := hl i H hi p
  by_cases hlt : i < xs.length
  · refine .inr ⟨⟨xs, xs[i], SqL.of ha, List.getElem?_eq_getElem hlt⟩, Pv (i + 1), fun H' p' => ⟨xs.length - (i + 1), by omega, rfl, hlt, p'⟩, fun x H' y => ?_⟩
    obtain ⟨T, x', rfl, nT, rfl, hx⟩ := y
    exact hs i x' _ T (hx xs (SqL.of ha)) (hk i H T _ nT p) upd_same
  · have e : i = xs.length := by omega
    subst e
    exact .inl ⟨⟨xs, SqL.of ha, Nat.le_refl _⟩, hd H p⟩
end
end Pw

namespace Pw
open PySem PySem.Spec PyProof.Rows L2 SX TL
theorem Nn_pos {n M : Nat} (h : 2 ^ M ≤ n) (hM : 2 ≤ M) : 1 ≤ Pm.Nn n M := by
  unfold Pm.Nn
  have h2 : (2 : Nat) ^ 2 ≤ 2 ^ M := Nat.pow_le_pow_right (by decide) hM
  have hq : Pm.Q 2 := ⟨Nat.le_refl 2, fun c k hk e => by
    have c2 : 2 ≤ c := pow_base2 (by omega) (by decide) e
    have h1 : (2 : Nat) ^ 2 ≤ 2 ^ k := Nat.pow_le_pow_right (by decide) hk
    have h2 : (2 : Nat) ^ k ≤ c ^ k := Nat.pow_le_pow_left c2 k
    omega⟩
  have h3 : Pm.S (fun c => Pm.I (Pm.Q c ∧ c ^ M ≤ n)) 3 ≤ Pm.S (fun c => Pm.I (Pm.Q c ∧ c ^ M ≤ n)) (n + 1) := Pm.S_le (by omega)
  have h4 : Pm.S (fun c => Pm.I (Pm.Q c ∧ c ^ M ≤ n)) 3 = Pm.S (fun c => Pm.I (Pm.Q c ∧ c ^ M ≤ n)) 2 + Pm.I (Pm.Q 2 ∧ 2 ^ M ≤ n) := rfl
  rw [Pm.I_t ⟨hq, h⟩] at h4
  omega
noncomputable def cg (n j : Nat) : Nat := Pm.Nn n (2 + j) + if j = 0 then 1 else 0
theorem cgl_eq (n M : Nat) : Pm.cgl n M = (List.range (M - 1)).map (cg n) := rfl
theorem cgl_len (n M : Nat) : (Pm.cgl n M).length = M - 1 := by rw [cgl_eq, List.length_map, List.length_range]
theorem cgl_get {n M j : Nat} (h : j < M - 1) : (Pm.cgl n M)[j]? = some (cg n j) := by rw [cgl_eq, List.getElem?_map, List.getElem?_range h]; rfl
theorem cg_last {n M : Nat} (h : Pm.Mst n M) : 1 ≤ cg n (M - 2) := by
  unfold cg
  have h2 := h.two
  rcases h.lo with z | z
  · rw [if_pos (by omega)]
    omega
  · have := Nn_pos z h2
    rw [show 2 + (M - 2) = M by omega]
    omega
theorem sum_filter (c : Nat → Bool) (f : Nat → Nat) : ∀ i : Nat, (((List.range i).filter c).map f).sum = Pm.S (fun j => if c j = true then f j else 0) i
  | 0 => rfl
  | i + 1 => by
    rw [List.range_succ, List.filter_append, List.map_append, List.sum_append, sum_filter c f i]
    show _ = Pm.S _ i + (if c i = true then f i else 0)
    by_cases z : c i = true
    · rw [if_pos z]
      simp [z]
    · rw [if_neg z]
      simp [z]
/-- what is summed of the counts: those whose greatest exponent is a multiple -/
theorem tog {n M e r : Nat} (hM : Pm.Mst n M) (he : 2 ≤ e) (hr : Pm.IsRoot n e r) (n1 : 1 ≤ n) : (((List.range (M - 1)).filter fun j => decide ((j + 2) % e = 0)).map (cg n)).sum + (if e = 2 then 0 else 1) = r := by
  have r1 : 1 ≤ r := by
    rcases Nat.eq_zero_or_pos r with z | z
    · have := hr.2
      rw [z, Nat.zero_add, Nat.one_pow] at this
      omega
    · exact z
  have h2 := hM.two
  rw [sum_filter]
  have e1 : ∀ j, j < M - 1 → (if decide ((j + 2) % e = 0) = true then cg n j else 0) = (if e ∣ 2 + j then Pm.Nn n (2 + j) else 0) + (if j = 0 then (if e = 2 then 1 else 0) else 0) := fun j _ => by
    by_cases z : e ∣ 2 + j
    · have z' : (j + 2) % e = 0 := Nat.mod_eq_zero_of_dvd (by rw [Nat.add_comm]; exact z)
      rw [if_pos (decide_eq_true z'), if_pos z]
      unfold cg
      by_cases w : j = 0
      · subst w
        have := Nat.le_of_dvd (by decide) z
        rw [if_pos rfl, if_pos rfl, if_pos (by omega)]
      · rw [if_neg w, if_neg w]
    · have z' : ¬ (j + 2) % e = 0 := fun w => z (by rw [Nat.add_comm]; exact Nat.dvd_of_mod_eq_zero w)
      rw [if_neg (fun w => z' (of_decide_eq_true w)), if_neg z]
      by_cases w : j = 0
      · subst w
        rw [if_pos rfl, if_neg (fun q => z (by rw [q]; exact Nat.dvd_refl 2))]
      · rw [if_neg w]
  rw [Pm.S_congr e1, Pm.S_add, Pm.S_one, if_pos (by omega)]
  have h3 := Pm.roots_split (show 1 ≤ e by omega) hr hM.hi
  have h4 := Pm.S_from2 (fun g => if e ∣ g then Pm.Nn n g else 0) (M - 1)
  have h5 : Pm.S (fun g => if 2 ≤ g then (if e ∣ g then Pm.Nn n g else 0) else 0) (M - 1 + 2) = Pm.S (fun g => if 1 ≤ g ∧ e ∣ g then Pm.Nn n g else 0) (M + 1) := by
    rw [show M - 1 + 2 = M + 1 by omega]
    refine Pm.S_congr fun g _ => ?_
    by_cases z : 1 ≤ g ∧ e ∣ g
    · have := Nat.le_of_dvd (by omega) z.2
      rw [if_pos z, if_pos (by omega), if_pos z.2]
    · rw [if_neg z]
      by_cases w : 2 ≤ g
      · rw [if_pos w, if_neg fun q => z ⟨by omega, q⟩]
      · rw [if_neg w]
  rw [← h4, h5, h3]
  by_cases z : e = 2
  · rw [if_pos z, if_pos z]
    omega
  · rw [if_neg z, if_neg z]
    omega
theorem cntP_succ {n : Nat} (n1 : 1 ≤ n) : Pm.cntP n = Pm.cntP (n - 1) + Pm.I (Pm.IsPow n) := by
  rw [Pm.cntP_all, Pm.cntP_all, show n - 1 + 1 = n by omega]
  show Pm.S _ n + Pm.I (1 ≤ n ∧ Pm.IsPow n) = _
  rw [Pm.I_congr (show (1 ≤ n ∧ Pm.IsPow n) ↔ Pm.IsPow n from ⟨fun h => h.2, fun h => ⟨n1, h⟩⟩)]
theorem Nn_succ {n e : Nat} (n1 : 1 ≤ n) (he : 1 ≤ e) : Pm.Nn n e = Pm.Nn (n - 1) e + Pm.I (2 ≤ n ∧ gexp n = e) := by
  rw [← S_gexp he, ← S_gexp he, show n - 1 + 1 = n by omega]
  rfl
/-- where the counts to n and to one less differ -/
theorem cg_next {n M : Nat} {ls : List Nat} (n1 : 1 ≤ n) (hM : Pm.Mst n M) (hl : CG (n - 1) ls) {j : Nat} (hj : j < M - 1) : ls.length ≤ M - 1 ∧ (cg n j = ls.getD j 0 ↔ gexp n ≠ j + 2) := by
  rcases hl with ⟨z, rfl⟩ | ⟨n2, M', hM', rfl⟩
  · have hn : n = 1 := by omega
    subst hn
    have hM2 : M = 2 := hM.uniq ⟨by decide, by decide, .inl rfl⟩
    subst hM2
    have hj0 : j = 0 := by omega
    subst hj0
    refine ⟨Nat.zero_le _, ?_⟩
    show Pm.Nn 1 2 + 1 = 0 ↔ _
    rw [gexp_1]
    exact ⟨fun h => by omega, fun h => absurd rfl h⟩
  · have hMM : M' ≤ M := by
      refine Nat.le_of_not_lt fun z => ?_
      have h1 := hM.hi
      have h2 := hM.two
      have h3 : (2 : Nat) ^ (M + 1) ≤ 2 ^ M' := Nat.pow_le_pow_right (by decide) z
      rcases hM'.lo with w | w <;> omega
    refine ⟨by rw [cgl_len]; omega, ?_⟩
    have hd : (Pm.cgl (n - 1) M').getD j 0 = cg (n - 1) j := by
      rw [List.getD_eq_getElem?_getD]
      by_cases w : j < M' - 1
      · rw [cgl_get w]; rfl
      · rw [List.getElem?_eq_none (by rw [cgl_len]; omega)]
        have hM'2 := hM'.two
        unfold cg
        rw [Pm.Nn_zero hM'.hi (by omega), if_neg (by omega)]
        rfl
    rw [hd]
    unfold cg
    rw [Nn_succ n1 (by omega)]
    by_cases w : gexp n = 2 + j
    · rw [Pm.I_t ⟨by omega, w⟩]
      constructor
      · intro h
        omega
      · intro h
        omega
    · rw [Pm.I_f fun q => w q.2]
      constructor
      · intro h
        omega
      · intro h
        omega
theorem gexp_le_mst {n M : Nat} (n1 : 1 ≤ n) (hM : Pm.Mst n M) : gexp n ≤ M := by
  have h2 := hM.two
  by_cases z : n = 1
  · rw [z, gexp_1]; exact h2
  · obtain ⟨c, c2, _, e⟩ := gexp_at (show 2 ≤ n by omega)
    have h1 := Pm.lt_of_two_pow (g := gexp n) (K := M + 1) (n := n) (by
      conv => rhs; rw [← e]
      exact Nat.pow_le_pow_left c2 _) hM.hi
    omega
theorem range_one (k : Nat) : ∀ m : Nat, (List.range m).filter (fun j => decide (j = k)) = if k < m then [k] else []
  | 0 => rfl
  | m + 1 => by
    rw [List.range_succ, List.filter_append, range_one k m]
    by_cases z : m = k
    · subst z
      rw [if_neg (Nat.lt_irrefl _), if_pos (Nat.lt_succ_self _)]
      simp
    · by_cases w : k < m
      · rw [if_pos w, if_pos (by omega)]
        simp [z]
      · rw [if_neg w, if_neg (by omega)]
        simp [z]
/-- the exponents at which they differ -/
theorem changed_eq {n M : Nat} {ls : List Nat} (n1 : 1 ≤ n) (hM : Pm.Mst n M) (hl : CG (n - 1) ls) : ((List.range (M - 1)).filter fun j => !decide (cg n j = ls.getD j 0)).map (· + 2) = if 1 < gexp n then [gexp n] else [] := by
  have h1 : ((List.range (M - 1)).filter fun j => !decide (cg n j = ls.getD j 0)) = (List.range (M - 1)).filter fun j => decide (j + 2 = gexp n) := List.filter_congr fun j hj => by
    have h2 := (cg_next n1 hM hl (List.mem_range.mp hj)).2
    by_cases z : j + 2 = gexp n
    · rw [decide_eq_true z, decide_eq_false fun q => (h2.mp q) z.symm]
      rfl
    · rw [decide_eq_false z, decide_eq_true (h2.mpr fun q => z q.symm)]
      rfl
  rw [h1]
  have hle := gexp_le_mst n1 hM
  by_cases z : 1 < gexp n
  · rw [if_pos z]
    have h3 : ((List.range (M - 1)).filter fun j => decide (j + 2 = gexp n)) = (List.range (M - 1)).filter fun j => decide (j = gexp n - 2) := List.filter_congr fun j _ => decide_eq_decide.mpr ⟨fun h => by omega, fun h => by omega⟩
    rw [h3, range_one, if_pos (by omega)]
    show [gexp n - 2 + 2] = [gexp n]
    rw [show gexp n - 2 + 2 = gexp n by omega]
  · rw [if_neg z]
    have h3 : ((List.range (M - 1)).filter fun j => decide (j + 2 = gexp n)) = [] := List.filter_eq_nil_iff.mpr fun j _ h => by
      have := of_decide_eq_true h
      omega
    rw [h3]
    rfl
theorem pad_get {ls : List Nat} {k j : Nat} (h : j < ls.length + k) : (ls ++ List.replicate k 0)[j]? = some (ls.getD j 0) := by
  rw [List.getD_eq_getElem?_getD]
  by_cases z : j < ls.length
  · rw [List.getElem?_append_left z, List.getElem?_eq_getElem z]
    rfl
  · rw [List.getElem?_append_right (by omega), List.getElem?_eq_none (Nat.le_of_not_lt z), List.getElem?_replicate, if_pos (by omega)]
    rfl
def spTog : Sp := fun vs H Q _ => ∃ (d : Addr) (n m : Nat), vs = [.ref d, .int (m : Int)] ∧ m ≤ 10 ^ 40 ∧ SeedAt H d n ∧ n ≤ 2 ^ 40 ∧ ∀ H', Keep d H H' → SeedAt H' d (n + 100) → Q (.bl true) H'
def spNext10 : Sp := fun vs H Q _ => ∃ m : Nat, vs = [.int (m : Int)] ∧ 1 ≤ m ∧ m ≤ 10 ^ 40 ∧ ∀ H', Same H H' → Q (.bl true) H'
theorem mst_M {n M : Nat} (h : Pm.Mst n M) (hb : n < 2 ^ 190) : M ≤ 190 := by
  rcases h.lo with z | z
  · omega
  · have := Pm.lt_of_two_pow z hb
    omega
theorem fil_range (c : Nat → Bool) (i : Nat) : (List.range (i + 1)).filter c = if c i = true then (List.range i).filter c ++ [i] else (List.range i).filter c := by
  rw [List.range_succ, List.filter_append]
  by_cases z : c i = true
  · rw [if_pos z]; simp [z]
  · rw [if_neg z]; simp [z]
theorem CG.len_le {n : Nat} {ks : List Nat} (h : CG n ks) (hb : n < 2 ^ 190) : ks.length ≤ 190 := by
  rcases h with ⟨_, rfl⟩ | ⟨_, M, hM, rfl⟩
  · exact Nat.zero_le _
  · have := mst_M hM hb
    rw [cgl_len]
    omega
theorem r_cutN {c A B : Prop} [Decidable c] (hB : B) (hA : ¬ c → B → A) : if (!decide c) = true then A else B := r_iteN (fun n => hA n hB) fun _ => hB
theorem r_cutT {c A B : Prop} [Decidable c] (hB : B) (hA : c → B → A) : if decide c = true then A else B := r_ite (fun n => hA n hB) fun _ => hB
/-- f(a and b), a and b without any effect -/
theorem r_CBand {r : List V → Hp → VK → Prop} {ta tb : TE} {σ : L2.St} {H : Hp} {Q : VK} {c1 c2 : Bool} (h1 : ∀ Q : VK, Q (.bl c1) H → ta σ H Q) (h2 : ∀ Q : VK, Q (.bl c2) H → tb σ H Q) (q : r [.bl (c1 && c2)] H Q) : tCB r (tCons (tAndV ta tb) tNil) σ H Q := by
  refine r_CB (r_cons (r_andV (h1 _ ⟨c1, rfl, ?_⟩)))
  cases c1 with
  | true => exact h2 _ (r_nil (QA := fun xs H2 => r (.bl c2 :: xs) H2 Q) q)
  | false => exact iteF (show r [.bl false] H Q from q)
end Pw

namespace Pm
theorem cntP_mono {n m : Nat} (h : n ≤ m) : cntP n ≤ cntP m := by
  rw [cntP_all, cntP_all]
  exact S_le (by omega)
theorem cntP_step (n : Nat) : cntP (n + 1) = cntP n + I (IsPow (n + 1)) := by
  have h := Pw.cntP_succ (n := n + 1) (by omega)
  exact h
/-- no powers between -/
theorem cntP_same {n m : Nat} (h : n ≤ m) (hno : ∀ x, n < x → x ≤ m → ¬ IsPow x) : cntP m = cntP n := by
  obtain ⟨k, rfl⟩ := Nat.exists_eq_add_of_le h
  clear h
  induction k with
  | zero => rfl
  | succ k ih =>
    rw [show n + (k + 1) = n + k + 1 by omega, cntP_step, I_f (hno _ (by omega) (by omega)), ih fun x a b => hno x a (by omega)]
    rfl
/-- the next power above n -/
structure NextP (n v : Nat) : Prop where
  gt : n < v
  pow : IsPow v
  min : ∀ x, n < x → IsPow x → v ≤ x
theorem NextP.cnt {n v : Nat} (h : NextP n v) : cntP v = cntP n + 1 := by
  have h1 := h.gt
  obtain ⟨w, rfl⟩ : ∃ w, v = w + 1 := ⟨v - 1, by omega⟩
  rw [cntP_step, I_t h.pow, cntP_same (n := n) (m := w) (by omega) fun x a b p => by have := h.min x a p; omega]
theorem NextP.uniq {n v w : Nat} (h : NextP n v) (h' : NextP n w) : v = w := Nat.le_antisymm (h.min _ h'.gt h'.pow) (h'.min _ h.gt h.pow)
/-- the power at a place -/
structure PowAt (p v : Nat) : Prop where
  pos : 1 ≤ v
  pow : IsPow v
  cnt : cntP v = p + 1
theorem PowAt.uniq {p v w : Nat} (h : PowAt p v) (h' : PowAt p w) : v = w := by
  have key : ∀ {a b : Nat}, PowAt p a → PowAt p b → ¬ a < b := fun {a b} ha hb z => by
    obtain ⟨c, rfl⟩ : ∃ c, b = c + 1 := ⟨b - 1, by omega⟩
    have h1 := cntP_step c
    rw [I_t hb.pow, hb.cnt] at h1
    have h2 := cntP_mono (show a ≤ c by omega)
    rw [ha.cnt] at h2
    omega
  have h1 := key h h'
  have h2 := key h' h
  omega
theorem cntP_sq {m K : Nat} (hm : 1 ≤ m) (hK : m < 2 ^ K) : cntP (m * m) = m + Od m K := by
  have : 0 < m * m := Nat.mul_pos hm hm
  unfold cntP
  rw [if_neg (by omega)]
  exact cnt_sq hm hK
theorem cntP_root {m v : Nat} (h : m * m ≤ v) : m ≤ cntP v := by
  by_cases z : m = 0
  · omega
  · have h1 := cntP_sq (m := m) (K := m) (by omega) (Nat.lt_two_pow_self)
    have h2 := cntP_mono h
    omega
/-- the powers at a place are not great -/
theorem pow_lt_of_cnt {v N : Nat} (h : cntP v ≤ N) : v < (N + 1) * (N + 1) := by
  refine Nat.lt_of_not_le fun z => ?_
  have := cntP_root z
  omega
/-- what the program looks at for the next power -/
noncomputable def nxl (n c : Nat) : List Nat := (List.range c).map fun i => (Rt n (2 + i) + 1) ^ (2 + i)
theorem nxl_gt {n c : Nat} : ∀ y ∈ nxl n c, n < y ∧ IsPow y := fun y hy => by
  obtain ⟨i, _, rfl⟩ := List.mem_map.mp hy
  exact ⟨(Rt_is (by omega)).2, _, _, by omega, rfl⟩
theorem nxl_min {n c v : Nat} (hc : 1 ≤ c) (hb : n < 2 ^ (c + 1)) (hm : v ∈ nxl n c) (hle : ∀ y ∈ nxl n c, v ≤ y) : NextP n v := by
  obtain ⟨h1, h2⟩ := nxl_gt v hm
  refine ⟨h1, h2, ?_⟩
  rintro x hx ⟨b, k, k2, rfl⟩
  have mem : ∀ k, 2 ≤ k → k ≤ c + 1 → v ≤ (Rt n k + 1) ^ k := fun k a b => by
    refine hle _ (List.mem_map.mpr ⟨k - 2, List.mem_range.mpr (by omega), ?_⟩)
    rw [show 2 + (k - 2) = k by omega]
  by_cases hk : k ≤ c + 1
  · refine Nat.le_trans (mem k k2 hk) (Nat.pow_le_pow_left ?_ k)
    have hr := Rt_is (n := n) (show 1 ≤ k by omega)
    refine Nat.lt_of_not_le fun z => ?_
    have := Nat.pow_le_pow_left z k
    have := hr.1
    omega
  · have h3 := mem (c + 1) (by omega) (Nat.le_refl _)
    refine Nat.le_trans h3 ?_
    by_cases hn : n = 0
    · subst hn
      have : Rt 0 (c + 1) = 0 := Rt_eq (by omega) ⟨by rw [Nat.zero_pow (by omega)]; exact Nat.le_refl _, by rw [Nat.zero_add, Nat.one_pow]; exact Nat.zero_lt_one⟩
      rw [this, Nat.zero_add, Nat.one_pow]
      omega
    · rw [Rt_one (by omega) (by omega) hb]
      have b2 : 2 ≤ b := by
        refine Nat.le_of_not_lt fun z => ?_
        have : b = 0 ∨ b = 1 := by omega
        rcases this with rfl | rfl
        · rw [Nat.zero_pow (by omega)] at hx; omega
        · rw [Nat.one_pow] at hx; omega
      exact Nat.le_trans (Nat.pow_le_pow_right (by decide) (show c + 1 ≤ k by omega)) (Nat.pow_le_pow_left b2 k)
theorem up_take {zs : List Nat} (h : zs.Pairwise (· < ·)) {i : Nat} (hi : i < zs.length) : (zs.filter fun x => decide (x ≤ zs[i])).length = i + 1 := by
  have e : zs = zs.take (i + 1) ++ zs.drop (i + 1) := (List.take_append_drop _ _).symm
  have h1 : (zs.take (i + 1)).filter (fun x => decide (x ≤ zs[i])) = zs.take (i + 1) := List.filter_eq_self.mpr fun x hx => by
    obtain ⟨j, hj, rfl⟩ := List.getElem_of_mem hx
    rw [List.length_take] at hj
    rw [List.getElem_take]
    refine decide_eq_true ?_
    by_cases z : j = i
    · subst z; exact Nat.le_refl _
    · exact Nat.le_of_lt (List.pairwise_iff_getElem.mp h j i (by omega) hi (by omega))
  have h2 : (zs.drop (i + 1)).filter (fun x => decide (x ≤ zs[i])) = [] := List.filter_eq_nil_iff.mpr fun x hx w => by
    obtain ⟨j, hj, rfl⟩ := List.getElem_of_mem hx
    rw [List.length_drop] at hj
    rw [List.getElem_drop] at w
    have h3 := List.pairwise_iff_getElem.mp h i (i + 1 + j) hi (by omega) (by omega)
    have := of_decide_eq_true w
    omega
  calc (zs.filter fun x => decide (x ≤ zs[i])).length = ((zs.take (i + 1) ++ zs.drop (i + 1)).filter fun x => decide (x ≤ zs[i])).length := by rw [← e]
    _ = i + 1 := by
      rw [List.filter_append, h1, h2, List.append_nil, List.length_take]
      omega
theorem near_at {zs : List Nat} {M i : Nat} (hu : zs.Pairwise (· < ·)) (hz : ∀ x, x ∈ zs ↔ 1 ≤ x ∧ x ≤ M ∧ IsPow x) (hi : i < zs.length) : PowAt i zs[i] := by
  obtain ⟨h1, h2, h3⟩ := (hz _).mp (List.getElem_mem hi)
  exact ⟨h1, h3, by rw [← cnt_filter (hu.imp fun a => Nat.ne_of_lt a) hz h2, up_take hu hi]⟩
theorem cnt_less {zs : List Nat} {M n : Nat} (hn : zs.Nodup) (hz : ∀ x, x ∈ zs ↔ 1 ≤ x ∧ x ≤ M ∧ IsPow x) (h : n ≤ M + 1) : (zs.filter fun x => decide (x < n)).length = cntP (n - 1) := by
  rw [← cnt_filter hn hz (show n - 1 ≤ M by omega)]
  congr 1
  refine List.filter_congr fun x hx => decide_eq_decide.mpr ?_
  have := (hz x).mp hx
  omega
end Pm
namespace Pw
open PySem PySem.Spec PyProof.Rows L2 SX TL
/-- exponents 2, 3, .. for n -/
def spExps : Sp := fun vs H Q _ => ∃ n : Nat, vs = [.int (n : Int)] ∧ n < 2 ^ 190 ∧ ∀ (c : Nat) (p : Addr) (H' : Hp), 1 ≤ c → c ≤ 190 → n < 2 ^ (c + 1) → H p = none → Same H H' → H' p = some (.lst (nn ((List.range c).map (2 + ·)))) → Q (.ref p) H'
def spNextPower : Sp := fun vs H Q _ => ∃ n : Nat, vs = [.int (n : Int)] ∧ n < 2 ^ 190 ∧ ∀ (v : Nat) (H' : Hp), Pm.NextP n v → Same H H' → Q (.int (v : Int)) H'
def spOthers : Sp := fun vs H Q _ => ∃ m : Nat, vs = [.int ((m * m : Nat) : Int)] ∧ 1 ≤ m ∧ m < 2 ^ 90 ∧ ∀ H', Same H H' → Q (.int ((Pm.Od m 90 : Nat) : Int)) H'
def spNarrower : Sp := fun vs H Q _ => ∃ (N : Int) (l h : Nat), vs = [.int N, .int (l : Int), .int (h : Int)] ∧ 1 ≤ l ∧ 1 ≤ h ∧ l < 2 ^ 90 ∧ h < 2 ^ 90 ∧ ∀ (p : Addr) (H' : Hp), H p = none → Same H H' → H' p = some (.tup [.int (N - ((Pm.Od h 90 : Nat) : Int)), .int (N - ((Pm.Od l 90 : Nat) : Int))]) → Q (.ref p) H'
def spNth : Sp := fun vs H Q _ => ∃ n : Nat, vs = [.int (n : Int)] ∧ n < 2 ^ 60 ∧ ∀ (v : Nat) (H' : Hp), Pm.PowAt n v → v < 2 ^ 124 → Same H H' → Q (.int (v : Int)) H'
def spPlaceOf : Sp := fun vs H Q _ => ∃ n : Nat, vs = [.int (n : Int)] ∧ n < 2 ^ 190 ∧ ∀ H', Same H H' → Q (.int ((Pm.cntP (n - 1) : Nat) : Int)) H'
theorem exps_ex {n : Nat} (hb : n < 2 ^ 190) : ∃ c : Nat, (if (2 : Int) > (Builtin.Int.intBits (n : Int) : Int) then (2 : Int) else (Builtin.Int.intBits (n : Int) : Int)) = ((c + 1 : Nat) : Int) ∧ 1 ≤ c ∧ c ≤ 190 ∧ n < 2 ^ (c + 1) := by
  have h1 := bits_lt n
  have h2 := bits_le hb
  generalize Builtin.Int.intBits (n : Int) = b at *
  by_cases z : (2 : Int) > (b : Int)
  · exact ⟨1, if_pos z, Nat.le_refl 1, by decide, Nat.lt_of_lt_of_le h1 (Nat.pow_le_pow_right (by decide) (by omega))⟩
  · exact ⟨b - 1, by rw [if_neg z]; omega, by omega, by omega, by rw [show b - 1 + 1 = b by omega]; exact h1⟩
theorem rgV_nn {c : Nat} : rgV 2 (((c + 1 : Nat) : Int) + 1) = nn ((List.range c).map (2 + ·)) := by
  unfold rgV
  rw [show ((((c + 1 : Nat) : Int) + 1) - 2).toNat = c by omega, nn, List.map_map, List.map_map]
  refine List.map_congr_left fun i _ => ?_
  show V.int (2 + (i : Int)) = V.int (((2 + i : Nat)) : Int)
  rw [show (2 : Int) + (i : Int) = ((2 + i : Nat) : Int) by omega]
theorem r_tRg2 {ta tb : TE} {σ : L2.St} {H : Hp} {R : Int → Int → Hp → Prop} (h : ta σ H fun x H1 => tb σ H1 fun y H2 => ∃ i j, x = .int i ∧ y = .int j ∧ R i j H2) : tRg2 ta tb σ H R := h
theorem r_lstRg {te : L2.St → Hp → (Int → Int → Hp → Prop) → Prop} {σ : L2.St} {H : Hp} {Q : VK} (h : te σ H fun a b H1 => RgOk a b ∧ ∀ q, H1 q = none → Q (.ref q) (upd H1 q (.lst (rgV a b)))) : tLstRg te σ H Q := h
def spLawIsPow : Sp := fun vs H Q _ => ∃ n : Nat, vs = [.int (n : Int)] ∧ n < 2 ^ 133 ∧ ∀ b : Bool, (b = true ↔ 1 ≤ n ∧ Pm.IsPow n) → Q (.bl b) H
def spPlaceR : Sp := fun vs H Q _ => ∃ (d p : Addr) (n : Nat), vs = [.ref d, .ref p] ∧ SeedAt H d n ∧ n ≤ 2 ^ 40 ∧ p ≠ d ∧ H p = some (.lst ((sgRow 139).map V.int)) ∧ ∀ H', Keep d H H' → SeedAt H' d (n + 100) → Q (.bl true) H'
end Pw

namespace Pm
/-- the last power below n, or none -/
def LastP (n : Nat) : Option Nat → Prop
  | none => n ≤ 1
  | some v => v < n ∧ 1 ≤ v ∧ IsPow v ∧ ∀ x, x < n → 1 ≤ x → IsPow x → x ≤ v
theorem isPow1 : IsPow 1 := ⟨1, 2, Nat.le_refl 2, rfl⟩
theorem LastP.uniq {n : Nat} : ∀ {o o' : Option Nat}, LastP n o → LastP n o' → o = o'
  | none, none, _, _ => rfl
  | none, some v, h, h' => by
    have a : n ≤ 1 := h
    have := h'.1
    have := h'.2.1
    omega
  | some v, none, h, h' => by
    have a : n ≤ 1 := h'
    have := h.1
    have := h.2.1
    omega
  | some v, some w, h, h' => by
    have a := h.2.2.2 w h'.1 h'.2.1 h'.2.2.1
    have b := h'.2.2.2 v h.1 h.2.1 h.2.2.1
    rw [Nat.le_antisymm a b]
noncomputable def lsl (n c : Nat) : List Nat := (List.range c).map fun i => Rt n (2 + i) ^ (2 + i)
theorem lsl_max {n c v : Nat} (n1 : 1 ≤ n) (hc : 1 ≤ c) (hb : n < 2 ^ (c + 1)) (hm : v ∈ lsl n c) (hge : ∀ y ∈ lsl n c, y ≤ v) : LastP (n + 1) (some v) := by
  obtain ⟨i, _, rfl⟩ := List.mem_map.mp hm
  have hr := Rt_is (n := n) (show 1 ≤ 2 + i by omega)
  have r1 : 1 ≤ Rt n (2 + i) := by
    rcases Nat.eq_zero_or_pos (Rt n (2 + i)) with z | z
    · have := hr.2
      rw [z, Nat.zero_add, Nat.one_pow] at this
      omega
    · exact z
  refine ⟨by have := hr.1; omega, Nat.pow_pos r1, ⟨_, _, by omega, rfl⟩, ?_⟩
  rintro x hx x1 ⟨b, k, k2, rfl⟩
  by_cases hk : k ≤ c + 1
  · have hr2 := Rt_is (n := n) (show 1 ≤ k by omega)
    have h1 : b ≤ Rt n k := by
      refine Nat.le_of_not_lt fun z => ?_
      have := Nat.pow_le_pow_left (show Rt n k + 1 ≤ b by omega) k
      have := hr2.2
      omega
    refine Nat.le_trans (Nat.pow_le_pow_left h1 k) (hge _ (List.mem_map.mpr ⟨k - 2, List.mem_range.mpr (by omega), ?_⟩))
    rw [show 2 + (k - 2) = k by omega]
  · have b1 : b ≤ 1 := by
      refine Nat.le_of_not_lt fun z => ?_
      have h1 := Nat.pow_le_pow_left (show 2 ≤ b by omega) k
      have h2 := Nat.pow_le_pow_right (show 0 < 2 by decide) (show c + 1 ≤ k by omega)
      omega
    have h3 : b ^ k ≤ 1 := by
      have := Nat.pow_le_pow_left b1 k
      rwa [Nat.one_pow] at this
    have := Nat.pow_pos (n := 2 + i) r1
    omega
/-- the nearest power -/
def NearP (n w : Nat) : Prop := (1 ≤ n ∧ IsPow n ∧ w = n) ∨ (¬ (1 ≤ n ∧ IsPow n) ∧ ∃ (o : Option Nat) (v : Nat), LastP n o ∧ NextP n v ∧ w = match o with | none => v | some l => if v - n < n - l then v else l)
theorem NearP.uniq {n w w' : Nat} (h : NearP n w) (h' : NearP n w') : w = w' := by
  rcases h with ⟨a, b, rfl⟩ | ⟨a, o, v, h1, h2, rfl⟩
  · rcases h' with ⟨_, _, e⟩ | ⟨a', _⟩
    · exact e.symm
    · exact absurd ⟨a, b⟩ a'
  · rcases h' with ⟨a', b', _⟩ | ⟨_, o', v', h1', h2', rfl⟩
    · exact absurd ⟨a', b'⟩ a
    · rw [h1.uniq h1', h2.uniq h2']
/-! ### the law's own search -/
structure Bs (n E : Nat) (o : Option Nat) (g : Nat) : Prop where
  none1 : o = none → n ≤ 1
  lo : ∀ l, o = some l → l < n ∧ 1 ≤ l ∧ IsPow l ∧ ∀ c k, 2 ≤ k → k < E → c ^ k < n → c ^ k ≤ l
  gt : n < g
  gp : IsPow g
  hi : ∀ c k, 2 ≤ k → k < E → n < c ^ k → g ≤ c ^ k
  top : (n = 0 ∧ g = 1) ∨ (1 ≤ n ∧ (g ≤ 4 ∨ g ≤ 2 * n))
theorem Bs.end {n E g : Nat} {o : Option Nat} (h : Bs n E o g) (hE : 2 * n < 2 ^ E) (E2 : 2 ≤ E) : LastP n o ∧ NextP n g := by
  have h22 : (2 : Nat) ^ 2 ≤ 2 ^ E := Nat.pow_le_pow_right (by decide) E2
  refine ⟨?_, h.gt, h.gp, ?_⟩
  · cases o with
    | none => exact h.none1 rfl
    | some l =>
      obtain ⟨h1, h2, h3, h4⟩ := h.lo l rfl
      refine ⟨h1, h2, h3, ?_⟩
      rintro x hx x1 ⟨c, k, k2, rfl⟩
      by_cases z : k < E
      · exact h4 c k k2 z hx
      · have c1 : c ≤ 1 := by
          refine Nat.le_of_not_lt fun w => ?_
          have a1 := Nat.pow_le_pow_left (show 2 ≤ c by omega) k
          have a2 := Nat.pow_le_pow_right (show 0 < 2 by decide) (show E ≤ k by omega)
          omega
        have := Nat.pow_le_pow_left c1 k
        rw [Nat.one_pow] at this
        omega
  · rintro x hx ⟨c, k, k2, rfl⟩
    by_cases z : k < E
    · exact h.hi c k k2 z hx
    · rcases h.top with ⟨_, rfl⟩ | ⟨n1, w⟩
      · omega
      · by_cases c2 : 2 ≤ c
        · have a1 := Nat.pow_le_pow_left c2 k
          have a2 := Nat.pow_le_pow_right (show 0 < 2 by decide) (show E ≤ k by omega)
          omega
        · have c1 : c = 0 ∨ c = 1 := by omega
          rcases c1 with rfl | rfl
          · rw [Nat.zero_pow (by omega)] at hx; omega
          · rw [Nat.one_pow] at hx
            omega
theorem Bs.new {n b : Nat} (hb : n < 2 ^ b) (hb2 : 1 ≤ n → 2 ^ (b - 1) ≤ n) : Bs n 2 (if n ≤ 1 then none else some 1) (if n = 0 then 1 else if n ≤ 3 then 4 else 2 ^ b) := by
  refine ⟨fun z => ?_, fun l e => ?_, ?_, ?_, fun c k k2 kE => absurd kE (by omega), ?_⟩
  · by_cases h : n ≤ 1
    · exact h
    · rw [if_neg h] at z; cases z
  · by_cases h : n ≤ 1
    · rw [if_pos h] at e; cases e
    · rw [if_neg h] at e
      cases e
      exact ⟨by omega, Nat.le_refl 1, isPow1, fun c k k2 kE => absurd kE (by omega)⟩
  · by_cases h : n = 0
    · rw [if_pos h]; omega
    · rw [if_neg h]
      by_cases h3 : n ≤ 3
      · rw [if_pos h3]; omega
      · rw [if_neg h3]; exact hb
  · by_cases h : n = 0
    · rw [if_pos h]; exact isPow1
    · rw [if_neg h]
      by_cases h3 : n ≤ 3
      · rw [if_pos h3]; exact ⟨2, 2, Nat.le_refl 2, rfl⟩
      · rw [if_neg h3]
        refine ⟨2, b, Nat.le_of_not_lt fun z => ?_, rfl⟩
        have := Nat.pow_le_pow_right (show 0 < 2 by decide) (show b ≤ 1 by omega)
        omega
  · by_cases h : n = 0
    · exact .inl ⟨h, if_pos h⟩
    · refine .inr ⟨by omega, ?_⟩
      rw [if_neg h]
      by_cases h3 : n ≤ 3
      · rw [if_pos h3]; exact .inl (Nat.le_refl 4)
      · rw [if_neg h3]
        refine .inr ?_
        have h1 := hb2 (by omega)
        have b1 : 1 ≤ b := by
          rcases Nat.eq_zero_or_pos b with z | z
          · rw [z] at hb; omega
          · exact z
        have : 2 ^ b = 2 * 2 ^ (b - 1) := by
          conv => lhs; rw [show b = (b - 1) + 1 by omega, Nat.pow_succ, Nat.mul_comm]
        omega
theorem Bs.step {n E l g r1 r2 : Nat} (h : Bs n E (some l) g) (n2 : 2 ≤ n) (E2 : 2 ≤ E) (h1 : IsRoot (n - 1) E r1) (h2 : IsRoot n E r2) : Bs n (E + 1) (some (max l (r1 ^ E))) (min g ((r2 + 1) ^ E)) := by
  have l1 := h.lo l rfl
  have r11 : 1 ≤ r1 := by
    rcases Nat.eq_zero_or_pos r1 with z | z
    · have := h1.2
      rw [z, Nat.zero_add, Nat.one_pow] at this
      omega
    · exact z
  have hp : 1 ≤ r1 ^ E := Nat.pow_pos r11
  have h11 := h1.1
  refine ⟨(fun z => nomatch z), fun l' e => ?_, ?_, ?_, fun c k k2 kE hc => ?_, ?_⟩
  · cases e
    refine ⟨Nat.max_lt.mpr ⟨l1.1, by omega⟩, Nat.le_trans l1.2.1 (Nat.le_max_left _ _), ?_, fun c k k2 kE hc => ?_⟩
    · rcases Nat.le_total l (r1 ^ E) with z | z
      · rw [Nat.max_eq_right z]; exact ⟨r1, E, E2, rfl⟩
      · rw [Nat.max_eq_left z]; exact l1.2.2.1
    · by_cases z : k = E
      · subst z
        refine Nat.le_trans (Nat.pow_le_pow_left ?_ k) (Nat.le_max_right _ _)
        refine Nat.le_of_not_lt fun w => ?_
        have := Nat.pow_le_pow_left (show r1 + 1 ≤ c by omega) k
        have := h1.2
        omega
      · exact Nat.le_trans (l1.2.2.2 c k k2 (by omega) hc) (Nat.le_max_left _ _)
  · have := h2.2
    exact Nat.lt_min.mpr ⟨h.gt, this⟩
  · rcases Nat.le_total g ((r2 + 1) ^ E) with z | z
    · rw [Nat.min_eq_left z]; exact h.gp
    · rw [Nat.min_eq_right z]; exact ⟨r2 + 1, E, E2, rfl⟩
  · by_cases z : k = E
    · subst z
      refine Nat.le_trans (Nat.min_le_right _ _) (Nat.pow_le_pow_left ?_ k)
      refine Nat.le_of_not_lt fun w => ?_
      have := Nat.pow_le_pow_left (show c ≤ r2 by omega) k
      have := h2.1
      omega
    · exact Nat.le_trans (Nat.min_le_left _ _) (h.hi c k k2 (by omega) hc)
  · rcases h.top with ⟨w, _⟩ | ⟨n1, w⟩
    · omega
    · have := Nat.min_le_left g ((r2 + 1) ^ E)
      exact .inr ⟨n1, by omega⟩
/-- for small numbers, by the list of all powers to 27 -/
theorem next_list {n v : Nat} (hv : v ∈ [1, 4, 8, 9, 16, 25, 27]) (gt : n < v) (h : ∀ x ∈ [1, 4, 8, 9, 16, 25, 27], n < x → v ≤ x) : NextP n v := by
  obtain ⟨_, h2, h3⟩ := (near27 v).mp hv
  refine ⟨gt, h3, fun x hx hp => ?_⟩
  by_cases z : x ≤ 27
  · exact h x ((near27 x).mpr ⟨by omega, z, hp⟩) hx
  · omega
theorem last_list {n v : Nat} (hv : v ∈ [1, 4, 8, 9, 16, 25, 27]) (lt : v < n) (n27 : n ≤ 28) (h : ∀ x ∈ [1, 4, 8, 9, 16, 25, 27], x < n → x ≤ v) : LastP n (some v) := by
  obtain ⟨h1, h2, h3⟩ := (near27 v).mp hv
  exact ⟨lt, h1, h3, fun x hx x1 hp => h x ((near27 x).mpr ⟨x1, by omega, hp⟩) hx⟩
/-- by a list of all powers -/
theorem near_last {zs : List Nat} {M n : Nat} (hu : zs.Pairwise (· < ·)) (hz : ∀ x, x ∈ zs ↔ 1 ≤ x ∧ x ≤ M ∧ IsPow x) (hn : n ≤ M + 1) : LastP n (zs.filter fun x => decide (x < n)).getLast? := by
  cases e : (zs.filter fun x => decide (x < n)).getLast? with
  | none =>
    have h1 := List.getLast?_eq_none_iff.mp e
    show n ≤ 1
    refine Nat.le_of_not_lt fun z => ?_
    have : 1 ∈ zs.filter fun x => decide (x < n) := List.mem_filter.mpr ⟨(hz 1).mpr ⟨Nat.le_refl 1, by omega, isPow1⟩, decide_eq_true z⟩
    rw [h1] at this
    cases this
  | some v =>
    obtain ⟨ys, h1⟩ := List.getLast?_eq_some_iff.mp e
    have hv : v ∈ zs.filter fun x => decide (x < n) := by rw [h1]; simp
    obtain ⟨hv1, hv2⟩ := List.mem_filter.mp hv
    obtain ⟨v1, _, vp⟩ := (hz v).mp hv1
    refine ⟨of_decide_eq_true hv2, v1, vp, fun x hx x1 xp => ?_⟩
    have hxm : x ∈ zs.filter fun x => decide (x < n) := List.mem_filter.mpr ⟨(hz x).mpr ⟨x1, by omega, xp⟩, decide_eq_true hx⟩
    have hp : (ys ++ [v]).Pairwise (· < ·) := by rw [← h1]; exact hu.filter _
    rw [h1] at hxm
    rcases List.mem_append.mp hxm with m | m
    · exact Nat.le_of_lt ((List.pairwise_append.mp hp).2.2 x m v (by simp))
    · have : x = v := by simpa using m
      omega
theorem near_next {zs : List Nat} {M n v : Nat} {r : List Nat} (hu : zs.Pairwise (· < ·)) (hz : ∀ x, x ∈ zs ↔ 1 ≤ x ∧ x ≤ M ∧ IsPow x) (e : (zs.filter fun x => decide (n < x)) = v :: r) : NextP n v := by
  have hv : v ∈ zs.filter fun x => decide (n < x) := by rw [e]; exact List.mem_cons_self ..
  obtain ⟨hv1, hv2⟩ := List.mem_filter.mp hv
  obtain ⟨v1, vM, vp⟩ := (hz v).mp hv1
  refine ⟨of_decide_eq_true hv2, vp, fun x hx xp => ?_⟩
  by_cases z : x ≤ M
  · have hxm : x ∈ zs.filter fun x => decide (n < x) := List.mem_filter.mpr ⟨(hz x).mpr ⟨by omega, z, xp⟩, decide_eq_true hx⟩
    have hp : (v :: r).Pairwise (· < ·) := by rw [← e]; exact hu.filter _
    rw [e] at hxm
    rcases List.mem_cons.mp hxm with m | m
    · omega
    · exact Nat.le_of_lt ((List.pairwise_cons.mp hp).1 x m)
  · omega
/-- soon there is a square -/
theorem soon {n : Nat} (h : n < 500) : ∃ v, n < v ∧ v ≤ n + 45 ∧ IsPow v := by
  have : ∀ n, n < 500 → ∃ m, m < 24 ∧ n < m * m ∧ m * m ≤ n + 45 := by decide +kernel
  obtain ⟨m, _, h1, h2⟩ := this n h
  exact ⟨m * m, h1, h2, m, 2, Nat.le_refl 2, Nat.pow_two m⟩
end Pm
namespace Pw
open PySem PySem.Spec PyProof.Rows L2 SX TL
abbrev vo : Option Nat → V
  | none => .non
  | some n => .int (n : Int)
def dvo : Option Nat → PyData
  | none => .none
  | some n => .int (n : Int)
theorem r_isN1 {H : Hp} {Q : VK} {x : V} (q : Q (.bl (decide (x = .non))) H) : rIsN x .non H Q := ⟨rfl, q⟩
theorem r_notN1 {H : Hp} {Q : VK} {x : V} (q : Q (.bl (!decide (x = .non))) H) : rNotN x .non H Q := ⟨rfl, q⟩
section
variable {K : PySem.W.Frag} {H : Hp} {Q : VK} {p q : Addr} {o o' : Option Nat} {v w : Nat}
theorem dp_vo : ∀ o : Option Nat, Dp K H (vo o) (dvo o)
  | none => .non
  | some n => .int _
theorem dvo_lay (o : Option Nat) : (dvo o).canLay0 = true := by cases o <;> simp [dvo, PyData.canLay0]
theorem dvo_depth (o : Option Nat) : (dvo o).depth = 0 := by cases o <;> simp [dvo, PyData.depth]
theorem dvo_eqv (o o' : Option Nat) : PyData.eqv (dvo o) (dvo o') = decide (o = o') := by
  cases o with
  | none => cases o' <;> simp [dvo, PyData.eqv]
  | some a =>
    cases o' with
    | none => simp [dvo, PyData.eqv]
    | some b =>
      by_cases h : a = b
      · subst h; simp [dvo, PyData.eqv]
      · have : ¬ (a : Int) = (b : Int) := fun z => h (by omega)
        simp [dvo, PyData.eqv, h, this]
theorem bes_shaped (o : Option Nat) (v : Nat) : SeqAt.shaped (.tuple [dvo o, .int (v : Int)]) = true := by
  unfold SeqAt.shaped
  simp only [PyData.canLay0, PyData.canLayAll0, PyData.depth, PyData.depthAll, dvo_lay, dvo_depth, Bool.true_and, decide_eq_true_eq]
  decide
theorem bes_eqv (o o' : Option Nat) (v w : Nat) : PyData.eqv (.tuple [dvo o, .int (v : Int)]) (.tuple [dvo o', .int (w : Int)]) = decide (o = o' ∧ v = w) := by
  simp only [PyData.eqv, PyData.eqvAll, dvo_eqv]
  by_cases h1 : o = o'
  · by_cases h2 : v = w
    · subst h1 h2; simp
    · have : ¬ (v : Int) = (w : Int) := fun z => h2 (by omega)
      simp [h1, h2, this]
  · simp [h1]
theorem r_neBs (hp : H p = some (.tup [vo o, .int (v : Int)])) (hq : H q = some (.tup [vo o', .int (w : Int)])) (k : Q (.bl (!decide (o = o' ∧ v = w))) H) : rNeD K (.ref p) (.ref q) H Q :=
  ⟨.tuple [dvo o, .int (v : Int)], .tuple [dvo o', .int (w : Int)], .tup (SqT.of hp) (.cons (dp_vo o) (.cons (.int _) .nil)), .tup (SqT.of hq) (.cons (dp_vo o') (.cons (.int _) .nil)), bes_shaped o v, bes_shaped o' w, by rw [bes_eqv]; exact k⟩
theorem kB_nb : kitB "NoneType" "bool" = some false := by decide +kernel
theorem r_isiNB (q : Q (.bl false) H) : rIsi K [.non, .ty "bool"] H Q := r_isi (.base .non) kB_nb q
end
def spLast : Sp := fun vs H Q _ => ∃ n : Nat, vs = [.int ((n : Int) - 1)] ∧ n < 2 ^ 190 ∧ ∀ (o : Option Nat) (H' : Hp), Pm.LastP n o → Same H H' → Q (vo o) H'
def spBeside : Sp := fun vs H Q _ => ∃ n : Nat, vs = [.int (n : Int)] ∧ n < 2 ^ 190 ∧ ∀ (o : Option Nat) (v : Nat) (p : Addr) (H' : Hp), Pm.LastP n o → Pm.NextP n v → H p = none → Same H H' → H' p = some (.tup [vo o, .int (v : Int)]) → Q (.ref p) H'
def spNearest : Sp := fun vs H Q _ => ∃ n : Nat, vs = [.int (n : Int)] ∧ n < 2 ^ 190 ∧ ∀ (w : Nat) (H' : Hp), Pm.NearP n w → Same H H' → Q (.int (w : Int)) H'
def spLawBeside : Sp := fun vs H Q _ => ∃ n : Nat, vs = [.int (n : Int)] ∧ n < 2 ^ 133 ∧ ∀ (o : Option Nat) (v : Nat) (p : Addr) (H' : Hp), Pm.LastP n o → Pm.NextP n v → H p = none → Same H H' → H' p = some (.tup [vo o, .int (v : Int)]) → Q (.ref p) H'
def spRight12 : Sp := fun vs H Q _ => ∃ n : Nat, vs = [.int (n : Int)] ∧ n < 2 ^ 133 ∧ ∀ H', Same H H' → Q (.bl true) H'
end Pw

/-! sets of whole numbers made by a comprehension, and put in order -/
namespace Pw
open PySem PySem.Spec PyProof.Rows L2 SX TL
section
variable {X : Cx}
/-- one more member -/
abbrev putI (S : Int → Bool) (c : Int) : Int → Bool := fun j => S j || decide (j = c)
theorem addI_ok {pins : List (Addr × Obj)} {σ : L2.St} {G : Hp} {s : Shared} {E : Value → Shared → Prop} {D : Addr} {S : Int → Bool} {n : Nat} {c : Int} {tk : Tok} {Q : Value → Shared → Prop}
    (I : Inv X pins σ G s) (hD : G D = some (SetO X.w D S n)) (few : n + 1 < scanBound)
    (q : ∀ s', Inv X pins σ (upd G D (SetO X.w D (putI S c) (if S c = true then n else n + 1))) s' → Q .none s') :
    wpAny (model X.prog X.w) X.A (call (.builtin "set.add") [.ref D, .int c tk]) Q E s := by
  refine setR_add (setO_get I hD) few fun h' same new => q _ ?_
  obtain ⟨o, _, _, _, there, _⟩ := id new
  exact I.write (e := D) (t' := s.toks + 1) (by rw [hD]; trivial) (.inl rfl) (fun b u ne hu => (same.2 b ne).trans hu) ⟨o, there⟩ (setO_new new)
/-- what a comprehension of a set asks -/
def tSci (w : World) (wi : TI) (g : TG) (tt : TT) (te : TE) (vs : List Nat) : TE := fun σ H Q => wi σ H fun J H1 => ∀ D, H1 D = none →
  ∃ Wd : Nat → Nat → Hp → Prop, (∃ m, Wd 0 m (upd H1 D (SetO w D (fun _ => false) 0))) ∧
    ∀ i m G, Wd i m G → (J.stop i G ∧ Q (.ref D) G) ∨
      (J.go i G ∧ ∃ Nx : Hp → Prop, (∀ G', Nx G' → ∃ m', m' < m ∧ Wd (i + 1) m' G') ∧
        ∀ x G', J.yld i G x G' → g x (wipe σ vs) G' fun σ2 G2 => wipe σ2 vs = wipe σ vs ∧ tt σ2 G2 fun b G3 =>
          if b = true then te σ2 G3 fun y G4 => ∃ (c : Int) (S : Int → Bool) (n : Nat), y = .int c ∧ G4 D = some (SetO w D S n) ∧ n + 1 < scanBound ∧
            Nx (upd G4 D (SetO w D (putI S c) (if S c = true then n else n + 1)))
          else Nx G3)
/-- a new, empty set -/
abbrev newSetObj (w : World) : Obj := { cls := .type "set", dict := none, data := .set #[] 0 (.fresh 0 0 (!w.params.followText "set-order")) }
theorem pe_sci {elt tg it : Expr} {ifs : List Expr} {sc : Scope} {own : List (PySem.Str × Nat)} {pos : Pos} {wi : TI} {g : TG} {tt : TT} {te : TE}
    (calm : X.calm = true) (nd : X.N.Nodup) (walk : PI X tg it wi) (blk : BlkOk X.N X.env.scope sc own)
    (hg : ∀ (s : Shared) (G : Hp) (C : Addr) (cl : List (PySem.Str × Addr)) (fp : List Addr), PG (X.blk s G sc (compEnvC sc cl C X.env) fp) tg g)
    (ht : ∀ (s : Shared) (G : Hp) (C : Addr) (cl : List (PySem.Str × Addr)) (fp : List Addr), PTs (X.blk s G sc (compEnvC sc cl C X.env) fp) ifs tt)
    (he : ∀ (s : Shared) (G : Hp) (C : Addr) (cl : List (PySem.Str × Addr)) (fp : List Addr), PE (X.blk s G sc (compEnvC sc cl C X.env) fp) elt te)
    (plain : ∀ x, foldedSetIterable it X.env x = pure x := by intro _; rfl) :
    PE X (.SetComp elt [⟨tg, it, ifs, 0⟩] sc pos) (tSci X.w wi g tt te (own.map (·.2))) := by
  refine ⟨fun pins s σ H Q I h => ?_⟩
  rw [PpSet.eval_SetComp]
  have freeIn : ∀ y ∈ sc.names, y.2 = .free → ∃ c, X.env.cells.lookup y.1 = some c := fun y hy e =>
    (blk.free y hy e).elim (fun k => I.ok.has _ (.inl k)) (fun k => I.ok.has _ (.inr k))
  refine wpAny_comprehension_free (use := none) rfl plain (closure_ok freeIn) blk.kind (fun y hy e => by rw [blk.uniq y hy, e])
    (thn (walk.run pins s σ H _ I h) fun xv s1 hx => thn hx fun itv s2 got => ?_)
  obtain ⟨ia, fp, tn, J, H2, rfl, I2, T, st2, f2, q⟩ := got
  refine PpSet.newSet_ok (newEnv_comp ?_)
  obtain ⟨D, eD⟩ : ∃ D, s2.heap.objs.size = D := ⟨_, rfl⟩
  have freeD : H2 D = none := I2.hok.fresh (Nat.le_of_eq eD)
  obtain ⟨Wd, ⟨m0, w0⟩, turn⟩ := q D freeD
  obtain ⟨s3, e3⟩ : ∃ s3 : Shared, { s2 with heap := s2.heap.push (newSetObj X.w) } = s3 := ⟨_, rfl⟩
  have h3 : s3.heap = s2.heap.push (newSetObj X.w) := by rw [← e3]
  have I3 : Inv X pins σ (upd H2 D (SetO X.w D (fun _ => false) 0)) s3 := by
    rw [← e3, ← eD]
    exact I2.laid (t' := s2.toks) (fun b o e => Heap.get?_push_of_some _ e) (Nat.le_refl _) (setO_new (setR_fresh X.w))
  have f3 : ∀ b ∈ fp, FpOk X pins (upd H2 D (SetO X.w D (fun _ => false) 0)) b ∧ b < s3.heap.objs.size := fun b hb => by
    obtain ⟨o, eo, _⟩ := T.obj _ _ st2 b hb
    have lt : b < s2.heap.objs.size := Heap.lt_size eo
    refine ⟨⟨?_, (f2 b hb).2⟩, by rw [h3, Heap.size_push]; exact Nat.lt_succ_of_lt lt⟩
    rw [upd_ne (Nat.ne_of_lt (by rw [← eD]; exact lt))]
    exact (f2 b hb).1
  have st3 : tn 0 s3.heap := T.keep _ _ _ st2 fun b _ o e => by rw [h3]; exact Heap.get?_push_of_some _ e
  obtain ⟨H3, e4⟩ : ∃ H3, upd H2 D (SetO X.w D (fun _ => false) 0) = H3 := ⟨_, rfl⟩
  rw [e4] at I3 f3 w0
  obtain ⟨cl, ecl⟩ : ∃ cl, cellsFrom (s3.heap.objs.size + 1) sc.names (cloFrom X.env.cells sc.names []) = cl := ⟨_, rfl⟩
  have I4 := block_start I3 blk nd f3
  show codeAny _ _ (.compStart (.SetComp elt [⟨tg, it, ifs, 0⟩] sc pos) 0 (.ref ia) (.ref s2.heap.objs.size) _) _ _
  rw [eD]
  have pg := hg s3 H3 s3.heap.objs.size cl fp
  have pt := ht s3 H3 s3.heap.objs.size cl fp
  have pe := he s3 H3 s3.heap.objs.size cl fp
  have es3 : s3.heap.objs.size = s3.heap.objs.size := rfl
  show codeAny _ _ (.compStart (.SetComp elt [⟨tg, it, ifs, 0⟩] sc pos) 0 (.ref ia) (.ref D) (compEnvC sc (cellsFrom ((s2.heap.push (newSetObj X.w)).objs.size + 1) sc.names (cloFrom X.env.cells sc.names [])) (s2.heap.push (newSetObj X.w)).objs.size X.env)) _
    { s2 with heap := pushCells ((s2.heap.push (newSetObj X.w)).push { cls := .type "dict", data := .dict #[] }) sc.names }
  have e5 : ({ s2 with heap := pushCells ((s2.heap.push (newSetObj X.w)).push { cls := .type "dict", data := .dict #[] }) sc.names } : Shared) = { s3 with heap := pushCells (s3.heap.push { cls := .type "dict", data := .dict #[] }) sc.names } := by rw [← e3]
  rw [e5, ← h3, ecl]
  rw [ecl] at I4
  have nfp : ∀ b ∈ fp, H3 b = none := fun b hb => (f3 b hb).1.1
  obtain ⟨ce, ece⟩ : ∃ ce, compEnvC sc cl s3.heap.objs.size X.env = ce := ⟨_, rfl⟩
  have cL : ce.locals = s3.heap.objs.size := by rw [← ece]; rfl
  rw [ece] at I4 pg pt pe ⊢
  obtain ⟨s4, e6⟩ : ∃ s4 : Shared, { s3 with heap := pushCells (s3.heap.push { cls := .type "dict", data := .dict #[] }) sc.names } = s4 := ⟨_, rfl⟩
  rw [e6] at I4 ⊢
  have st4 : tn 0 s4.heap := T.keep _ _ _ st3 fun b _ o e => by rw [← e6]; exact pushCells_keeps _ _ _ _ (Heap.get?_push_of_some _ e)
  have stat : ∀ {σ' : L2.St} {G : Hp} {s' : Shared}, Inv (X.blk s3 H3 sc ce fp) [] σ' G s' → (∀ b ∈ fp, G b = none) → ∀ b ∈ fp, FpOk (X.blk s3 H3 sc ce fp) [] G b :=
    fun {σ' G s'} J' hn b hb => ⟨hn b hb, (J'.ok.exf b hb).1, J'.ok.exfs b hb, .inl hb, fun x c e => (J'.ok.exf b hb).2 x c e,
      fun p hp => absurd (show p ∈ ([] : List (Addr × Obj)) ++ [] from hp) (by simp)⟩
  have loop : codeAny (model X.prog X.w) X.A (.compLoop (.SetComp elt [⟨tg, it, ifs, 0⟩] sc pos) 0 (.ref ia) (.ref D) ce) (compPost (model X.prog X.w) X.A X.xe none (EP X pins σ Q) (.ref D) s3.heap.objs.size) s4 := by
    refine PpSet.compLoopS_any (fun n s' => ∃ i G, Inv (X.blk s3 H3 sc ce fp) [] (wipe σ (own.map (·.2))) G s' ∧ tn i s'.heap ∧ (∀ b ∈ fp, G b = none) ∧ Wd i n G) ?_ m0 ⟨0, H3, I4, st4, nfp, w0⟩
    rintro n s5 ⟨i, G5, I5, st5, n5, w5⟩
    rcases turn i n G5 w5 with ⟨stop, qq⟩ | ⟨go, Nx, hNx, step⟩
    · have td := T.done (X.blk s3 H3 sc ce fp) rfl rfl rfl calm i [] s5 _ G5 (fun _ _ => False) I5 (stat I5 n5) st5 stop
      refine thnF td fun r s6 z => ?_
      obtain ⟨rfl, I6⟩ := z
      have I7 : Inv X pins σ G5 s6 := I3.call' (ch := fp) I6.os I6.base I6.hok I6.bare fun b hb =>
        ⟨(f3 b hb).1.2.2.2.1, (f3 b hb).1.2.1, (f3 b hb).1.2.2.2.2.1, (f3 b hb).1.2.2.2.2.2⟩
      have nC : G5 s3.heap.objs.size = none := by
        rw [← cL]
        exact I6.free
      obtain ⟨m, hn, _⟩ := I6.loc
      have hn' : s6.heap.Ns s3.heap.objs.size m := by
        rw [← cL]
        exact hn
      obtain ⟨f0, f1, _, f3', f4, f5⟩ := I3.fpOk (Nat.le_refl _) nC
      exact ⟨m, hn', fun h'' sb => ⟨.ref D, G5, I7.turned (t' := s6.toks) (fun b o hb e => (sb.2 b hb).trans e) f0 f1 f3' f4 f5, rfl, qq⟩⟩
    · have ti := T.item (X.blk s3 H3 sc ce fp) rfl rfl rfl calm i [] s5 _ G5 (fun _ _ => False) I5 (stat I5 n5) st5 go
      refine thnF ti fun r s6 z => ?_
      obtain ⟨u, rfl, h6⟩ := z
      refine thnF h6 fun _ s7 z => ?_
      obtain ⟨x, G7, I7, r7, y7, st7, n7⟩ := z
      have I7' := I7.pinned (stat I7 n7) (T.obj _ _ st7)
      refine thnF (pg.run _ s7 _ G7 x u _ I7' r7 (step x G7 y7)) fun _ s8 z => ?_
      obtain ⟨σ8, G8, I8, hw8, q8⟩ := z
      refine thnF (pt.run _ s8 σ8 G8 _ I8 q8) fun b s9 z => ?_
      obtain ⟨G9, I9, q9⟩ := z
      have fin : ∀ {s' : Shared} {G' : Hp}, Inv (X.blk s3 H3 sc ce fp) ([] ++ pinsAt fp s7.heap) σ8 G' s' → Nx G' →
          ∃ m, m < n ∧ ∃ i G', Inv (X.blk s3 H3 sc ce fp) [] (wipe σ (own.map (·.2))) G' s' ∧ tn i s'.heap ∧ (∀ b ∈ fp, G' b = none) ∧ Wd i m G' := fun {s' G'} J' nx => by
        obtain ⟨m', lt, w'⟩ := hNx G' nx
        have pin : ∀ b ∈ fp, ∀ o, s7.heap.get? b = some o → s'.heap.get? b = some o ∧ G' b = none := fun b hb o e => by
          have z := J'.pin (b, o) (List.mem_append_right _ (List.mem_append_right _ (mem_pinsAt hb e)))
          exact ⟨z.1, z.2.1⟩
        refine ⟨m', lt, i + 1, G', (J'.unpinned (pins := [])).weak (by rw [← hw8, wipe_length]) (fun j v e => (wipe_some (hw8 ▸ e)).1), T.keep _ _ _ st7 fun b hb o e => (pin b hb o e).1, fun b hb => ?_, w'⟩
        obtain ⟨o, e, _⟩ := T.obj _ _ st7 b hb
        exact (pin b hb o e).2
      cases b with
      | false => exact fin I9 q9
      | true =>
        refine thnF (pe.run _ s9 σ8 G9 _ I9 q9) fun v s10 z => ?_
        obtain ⟨yv, G10, I10, r10, c, S, n0, rfl, hD10, few, nx⟩ := z
        obtain ⟨tk, rfl⟩ := r10
        exact addI_ok (X := X.blk s3 H3 sc ce fp) I10 hD10 few fun s11 I11 => fin I11 nx
  exact PpSet.codeAny_compStart_set loop (T.self X.A 0 _ _ _ st4 loop)
end
/-! ### sorted of such a set, to the bound of scanning -/
def rSortedSI (w : World) : List V → Hp → VK → Prop := fun vs H Q => ∃ (a : Addr) (S : Int → Bool) (n : Nat), vs = [V.ref a] ∧ H a = some (SetO w a S n) ∧
  ∀ (ns : List Int) (p : Addr), ns.Pairwise (· < ·) → (∀ k : Int, k ∈ ns ↔ S k = true) → ns.length = n → H p = none → Q (.ref p) (upd H p (.lst (ns.map V.int)))
theorem cr_sortedSI {X : Cx} (calm : X.calm = true) : CallR X (.builtin "sorted") (rSortedSI X.w) := by
  intro pins s σ H vs us Q I r asked
  obtain ⟨a, S, n, rfl, ha, q⟩ := asked
  obtain ⟨o, es, ep, t, ho, hex, hd, g, nd, hm, hb, hf, hn, hr, hl⟩ := setO_get I ha
  rw [Vals.ref1 r]
  refine Calls.call_function_entry PyProof.Rows.kind_sorted PyProof.Rows.plain_sorted PyProof.Rows.entry_sorted (PyProof.Rows.args_sorted1 _) ?_
  unfold Builtin.«sorted»
  refine wpAny_bind (m := checkCount "sorted" 1 1 _) (wpAny_pure ?_)
  refine wpAny_bind (collect_set (A := X.A.in1) (I.ok.hd calm) ⟨o, ho, hex.1, hd⟩ hf hb hr hl fun s1 vs k1 hz g1 o1 pm => ?_)
  have len : vs.length = n := by rw [pm.length_eq, List.length_map, Array.length_toList]; exact hn
  have hS : IntsAre vs (vs.map Builtin.Re.reRawOf) := ints_of vs fun v hv => by
    obtain ⟨e, he, rfl⟩ := List.mem_map.mp (pm.mem_iff.mp hv)
    obtain ⟨k, tk, h1, _⟩ := g e he
    exact ⟨k, tk, h1⟩
  have pk : (vs.map Builtin.Re.reRawOf).Perm (es.toList.map keyOf) := by
    have := pm.map Builtin.Re.reRawOf
    rw [List.map_map] at this
    exact this
  have line : vs.length ≤ sizeLine := by
    rw [len, ← hn]
    exact fits_of_scanBound hb
  refine wpAny_bind (wpAny_newList ?_ line)
  have hoL : (s1.heap.push (seqObj "list" vs.toArray 0)).get? s1.heap.objs.size = some (seqObj "list" vs.toArray 0) := Heap.get?_push_size _ rfl
  refine wpAny_bind (wpAny_holding (wpAny_call_entry PyProof.Rows.slot_list_sort ⟨_, hoL, rfl⟩ PyProof.Rows.entry_list_sort
    (SrtO.list_sort_ord (s := { s1 with heap := s1.heap.push (seqObj "list" vs.toArray 0) }) SrtO.swo_int hoL line (fun h2 => SrtO.ints_sortable hS h2) fun out h1 h2 => ⟨_, rfl, ?_⟩) (PyProof.Rows.args_list_sort _)))
  obtain ⟨g1', g2, g3⟩ := SrtO.ints_out hS h1 h2
  obtain ⟨e', he'⟩ := PyProof.Rows.sortedHeap_at (vs := vs) (out := out.toArray) hoL
  have pn : (out.map SrtO.iv).Perm (es.toList.map keyOf) := g2.trans pk
  have hlen : ((out.map SrtO.iv).map V.int).length ≤ sizeLine := by
    rw [List.length_map, g2.length_eq, List.length_map]
    exact line
  have free : H s1.heap.objs.size = none := I.hok.fresh hz
  have es : ({ s1 with heap := sortedHeap (s1.heap.push (seqObj "list" vs.toArray 0)) s1.heap.objs.size vs out.toArray } : Shared) = { s with heap := sortedHeap (s1.heap.push (seqObj "list" vs.toArray 0)) s1.heap.objs.size vs out.toArray, gens := s1.gens, drawn := s1.drawn, toks := s1.toks } := by
    cases s1
    cases s
    cases o1
    rfl
  have kept : ∀ b u, s.heap.get? b = some u → (sortedHeap (s1.heap.push (seqObj "list" vs.toArray 0)) s1.heap.objs.size vs out.toArray).get? b = some u := fun b u e => by
    have lt := Heap.lt_size (k1 b u e)
    rw [PyProof.Rows.sortedHeap_old (Nat.ne_of_lt lt) (by rw [size_push']; exact Nat.lt_succ_of_lt lt)]
    exact Heap.get?_push_of_some _ (k1 b u e)
  have J : Inv X pins σ (upd H s1.heap.objs.size (.lst ((out.map SrtO.iv).map V.int))) { s with heap := sortedHeap (s1.heap.push (seqObj "list" vs.toArray 0)) s1.heap.objs.size vs out.toArray, gens := s1.gens, drawn := s1.drawn, toks := s1.toks } :=
    I.call (ch := []) (Un.laid kept hz free) (I.hok.laid kept hz ⟨hlen, out, e', vals_of_ints g1', he'⟩) (by rw [g1]; exact I.bare) (fun _ z => nomatch z)
  refine wpAny_pure ⟨_, rfl, ?_⟩
  refine ⟨.ref s1.heap.objs.size, _, ?_, rfl, q (out.map SrtO.iv) _ (lt_of_le_nodup _ g3 (pn.nodup_iff.mpr nd)) (fun k => by rw [pn.mem_iff, ← hm k]) (by rw [pn.length_eq, List.length_map, Array.length_toList]; exact hn) free⟩
  have J' := J
  rw [← es] at J'
  exact J'
end Pw

namespace Pw
open PySem PySem.Spec PyProof.Rows L2 SX TL
section
variable {w : World} {σ : L2.St} {H : Hp} {Q : VK} {wi : TI} {g : TG} {tt : TT} {te : TE} {vs : List Nat}
/-- over range(n), every member put in: what is in the set behind i turns -/
theorem r_sci (h : wi σ H fun J H1 => ∀ D, H1 D = none →
  ∃ Wd : Nat → Nat → Hp → Prop, (∃ m, Wd 0 m (upd H1 D (SetO w D (fun _ => false) 0))) ∧
    ∀ i m G, Wd i m G → (J.stop i G ∧ Q (.ref D) G) ∨
      (J.go i G ∧ ∃ Nx : Hp → Prop, (∀ G', Nx G' → ∃ m', m' < m ∧ Wd (i + 1) m' G') ∧
        ∀ x G', J.yld i G x G' → g x (wipe σ vs) G' fun σ2 G2 => wipe σ2 vs = wipe σ vs ∧ tt σ2 G2 fun b G3 =>
          if b = true then te σ2 G3 fun y G4 => ∃ (c : Int) (S : Int → Bool) (n : Nat), y = .int c ∧ G4 D = some (SetO w D S n) ∧ n + 1 < scanBound ∧
            Nx (upd G4 D (SetO w D (putI S c) (if S c = true then n else n + 1)))
          else Nx G3)) : tSci w wi g tt te vs σ H Q := h
theorem sci_range {lo : Int} {n : Nat} {H1 : Hp} {D : Addr} {Qd : Hp → Prop} (Pv : Nat → Hp → Prop) (h0 : Pv 0 (upd H1 D (SetO w D (fun _ => false) 0)))
    (hs : ∀ i G, i < n → Pv i G → g (.int (lo + i)) (wipe σ vs) G fun σ2 G2 => wipe σ2 vs = wipe σ vs ∧ tt σ2 G2 fun b G3 =>
      if b = true then te σ2 G3 fun y G4 => ∃ (c : Int) (S : Int → Bool) (k : Nat), y = .int c ∧ G4 D = some (SetO w D S k) ∧ k + 1 < scanBound ∧ Pv (i + 1) (upd G4 D (SetO w D (putI S c) (if S c = true then k else k + 1))) else Pv (i + 1) G3)
    (hd : ∀ G, Pv n G → Qd G) :
    ∃ Wd : Nat → Nat → Hp → Prop, (∃ m, Wd 0 m (upd H1 D (SetO w D (fun _ => false) 0))) ∧ ∀ i m G, Wd i m G →
      ((Itr lo n).stop i G ∧ Qd G) ∨ ((Itr lo n).go i G ∧ ∃ Nx : Hp → Prop, (∀ G', Nx G' → ∃ m', m' < m ∧ Wd (i + 1) m' G') ∧ ∀ x G', (Itr lo n).yld i G x G' → g x (wipe σ vs) G' fun σ2 G2 => wipe σ2 vs = wipe σ vs ∧ tt σ2 G2 fun b G3 =>
        if b = true then te σ2 G3 fun y G4 => ∃ (c : Int) (S : Int → Bool) (k : Nat), y = .int c ∧ G4 D = some (SetO w D S k) ∧ k + 1 < scanBound ∧ Nx (upd G4 D (SetO w D (putI S c) (if S c = true then k else k + 1))) else Nx G3) := by
  refine ⟨fun i m G => m = n - i ∧ i ≤ n ∧ Pv i G, ⟨n, rfl, Nat.zero_le _, h0⟩, fun i m G z => ?_⟩
  obtain ⟨rfl, hi, p⟩ := z
  rcases Nat.lt_or_ge i n with lt | ge
  · refine .inr ⟨lt, Pv (i + 1), fun G' p' => ⟨n - (i + 1), by omega, rfl, lt, p'⟩, fun x G' y => ?_⟩
    obtain ⟨e1, e2⟩ := y
    subst e1 e2
    exact hs i _ lt p
  · obtain rfl : i = n := by omega
    exact .inl ⟨Nat.le_refl _, hd G p⟩
/-- the set at D holds just the numbers of which P is so, and is not great -/
def SetN (w : World) (G : Hp) (D : Addr) (P : Nat → Prop) (N : Nat) : Prop := ∃ (S : Int → Bool) (k : Nat), G D = some (SetO w D S k) ∧ k ≤ N ∧ ∀ j : Int, S j = true ↔ ∃ m : Nat, j = (m : Int) ∧ P m
theorem SetN.new {H1 : Hp} {D : Addr} : SetN w (upd H1 D (SetO w D (fun _ => false) 0)) D (fun _ => False) 0 := ⟨_, 0, upd_same, Nat.le_refl _, fun j => ⟨fun h => by simp at h, fun ⟨_, _, h⟩ => h.elim⟩⟩
theorem SetN.put {G : Hp} {D : Addr} {P : Nat → Prop} {N c : Nat} {R : Hp → Prop} (h : SetN w G D P N) (few : N + 1 < scanBound) (q : ∀ G', SetN w G' D (fun m => P m ∨ m = c) (N + 1) → Keep D G G' → R G') :
    ∃ (c' : Int) (S : Int → Bool) (k : Nat), V.int (c : Int) = .int c' ∧ G D = some (SetO w D S k) ∧ k + 1 < scanBound ∧ R (upd G D (SetO w D (putI S c') (if S c' = true then k else k + 1))) := by
  obtain ⟨S, k, e, kN, hS⟩ := h
  refine ⟨c, S, k, rfl, e, by omega, q _ ⟨_, _, upd_same, ?_, fun j => ?_⟩ Keep.upd⟩
  · by_cases z : S (c : Int) = true
    · rw [if_pos z]; omega
    · rw [if_neg z]; omega
  · show (S j || decide (j = (c : Int))) = true ↔ _
    rw [Bool.or_eq_true, decide_eq_true_iff, hS]
    constructor
    · rintro (⟨m, rfl, h⟩ | rfl)
      · exact ⟨m, rfl, .inl h⟩
      · exact ⟨c, rfl, .inr rfl⟩
    · rintro ⟨m, rfl, h | h⟩
      · exact .inl ⟨m, rfl, h⟩
      · exact .inr (by rw [h])
theorem SetN.congr {G : Hp} {D : Addr} {P P' : Nat → Prop} {N : Nat} (h : SetN w G D P N) (e : ∀ m, P m ↔ P' m) : SetN w G D P' N := by
  obtain ⟨S, k, h1, h2, h3⟩ := h
  exact ⟨S, k, h1, h2, fun j => (h3 j).trans ⟨fun ⟨m, a, b⟩ => ⟨m, a, (e m).mp b⟩, fun ⟨m, a, b⟩ => ⟨m, a, (e m).mpr b⟩⟩⟩
theorem r_sortedSN {G : Hp} {D : Addr} {P : Nat → Prop} {N : Nat} (h : SetN w G D P N)
    (q : ∀ (zs : List Nat) (p : Addr) (G' : Hp), Up zs → (∀ m, m ∈ zs ↔ P m) → G p = none → Same G G' → G' p = some (.lst (nn zs)) → Q (.ref p) G') : rSortedSI w [.ref D] G Q := by
  obtain ⟨S, k, e, _, hS⟩ := h
  refine ⟨D, S, k, rfl, e, fun ns p up mem _ np => ?_⟩
  have pos : ∀ j ∈ ns, ∃ m : Nat, j = (m : Int) ∧ P m := fun j hj => (hS j).mp ((mem j).mp hj)
  have e1 : ns = (ns.map Int.toNat).map fun k : Nat => (k : Int) := by
    rw [List.map_map]
    conv => lhs; rw [← List.map_id ns]
    refine List.map_congr_left fun j hj => ?_
    obtain ⟨m, rfl, _⟩ := pos j hj
    rfl
  refine q (ns.map Int.toNat) p _ ?_ (fun m => ?_) np (same_new np) (by rw [upd_same, nn, ← e1])
  · refine List.pairwise_map.mpr ?_
    refine up.imp_of_mem fun {a b} ha hb lt => ?_
    obtain ⟨m, rfl, _⟩ := pos a ha
    obtain ⟨m', rfl, _⟩ := pos b hb
    omega
  · rw [List.mem_map]
    constructor
    · rintro ⟨j, hj, rfl⟩
      obtain ⟨m, rfl, hm⟩ := pos j hj
      exact hm
    · intro hm
      exact ⟨(m : Int), (mem _).mpr ((hS _).mpr ⟨m, rfl, hm⟩), rfl⟩
end
/-! ### contracts -/
def spRest1 : Sp := fun vs H Q _ => ∃ b e d : Nat, vs = [.int (b : Int), .int (e : Int), .int (d : Int)] ∧ b ≤ 1000 ∧ e ≤ 200 ∧ 1 ≤ d ∧ d ≤ 1000 ∧ Q (.int ((b ^ e % d : Nat) : Int)) H
def spRests : Sp := fun vs H Q _ => ∃ d e : Nat, vs = [.int (d : Int), .int (e : Int)] ∧ 1 ≤ d ∧ d ≤ 1000 ∧ e ≤ 200 ∧ ∀ (p : Addr) (H' : Hp), H p = none → Same H H' → H' p = some (.tup (nn (Pm.rsts d e))) → Q (.ref p) H'
def spDivisor : Sp := fun vs H Q _ => ∃ (d : Addr) (n : Nat), vs = [.ref d] ∧ SeedAt H d n ∧ n ≤ 2 ^ 47 ∧ ∀ (r : Nat) (H' : Hp), 1 ≤ r → r ≤ 1000 → Keep d H H' → SeedAt H' d (n + 6) → Q (.int (r : Int)) H'
def spDue19 : Sp := fun vs H Q _ => ∃ d e : Nat, vs = [.int (d : Int), .int (e : Int)] ∧ 1 ≤ d ∧ d ≤ 1000 ∧ e ≤ 200 ∧ ∀ (p : Addr) (H' : Hp), H p = none → Same H H' → H' p = some (.lst (nn (Pm.rsts d e))) → Q (.ref p) H'
def spRight19 : Sp := fun vs H Q _ => ∃ d e : Nat, vs = [.int (d : Int), .int (e : Int)] ∧ 1 ≤ d ∧ d ≤ 1000 ∧ e ≤ 200 ∧ ∀ H', Same H H' → Q (.bl true) H'
/-- a list of marks 0 and 1 -/
def marks (d : Nat) (P : Nat → Bool) : List V := ((List.range d).map fun i => if P i = true then (1 : Int) else 0).map V.int
theorem marks_new (d : Nat) : List.replicate d (V.int 0) = marks d fun _ => false := by
  unfold marks
  rw [List.map_map]
  refine (List.eq_replicate_iff.mpr ⟨by simp, fun b hb => ?_⟩).symm
  obtain ⟨i, _, rfl⟩ := List.mem_map.mp hb
  rfl
theorem marks_set {d : Nat} {P : Nat → Bool} {j : Nat} : (marks d P).set j (.int 1) = marks d fun i => P i || decide (i = j) := by
  refine List.ext_getElem? fun i => ?_
  unfold marks
  simp only [List.map_map]
  rw [List.getElem?_set, List.length_map, List.length_range, List.getElem?_map, List.getElem?_map]
  by_cases z : j = i
  · subst z
    rw [if_pos rfl]
    by_cases w : j < d
    · rw [if_pos w, List.getElem?_range w, Option.map_some]
      show _ = some (V.int (if (P j || decide (j = j)) = true then 1 else 0))
      rw [if_pos (by simp)]
    · rw [if_neg w, List.getElem?_eq_none (by rw [List.length_range]; omega)]
      rfl
  · rw [if_neg z]
    by_cases w : i < d
    · rw [List.getElem?_range w, Option.map_some, Option.map_some]
      show some (V.int (if P i = true then 1 else 0)) = some (V.int (if (P i || decide (i = j)) = true then 1 else 0))
      rw [decide_eq_false (fun e => z e.symm), Bool.or_false]
    · rw [List.getElem?_eq_none (by rw [List.length_range]; omega)]
      rfl
theorem marks_len (d : Nat) (P : Nat → Bool) : (marks d P).length = d := by unfold marks; simp
theorem marks_at {d : Nat} {P : Nat → Bool} {j : Nat} (h : j < d) : (marks d P)[j]? = some (.int (if P j = true then 1 else 0)) := by
  unfold marks
  rw [List.getElem?_map, List.getElem?_map, List.getElem?_range h]
  rfl
theorem marks_congr {d : Nat} {P P' : Nat → Bool} (h : ∀ i, i < d → P i = P' i) : marks d P = marks d P' := by
  unfold marks
  congr 1
  refine List.map_congr_left fun i hi => ?_
  rw [h i (List.mem_range.mp hi)]
theorem sizeLine_ge : (1000000 : Nat) ≤ sizeLine := by decide
theorem r_rep1 {H : Hp} {Q : VK} {l : Addr} {n : Nat} {x : V} (h : H l = some (.lst [x])) (hn : n ≤ 1000000) (q : NewC Q (List.replicate n x) H) : rRep (.ref l) (.int (n : Int)) H Q := by
  refine ⟨l, n, [x], rfl, rfl, h, by omega, by omega, ?_, fun p np => ?_⟩
  · rw [Int.toNat_natCast, List.length_singleton, Nat.one_mul]
    exact Nat.le_trans hn sizeLine_ge
  · rw [Int.toNat_natCast, List.flatten_replicate_singleton]
    exact q p np
/-- those of the first i that pass -/
def fr (P : Nat → Bool) (i : Nat) : List Nat := (List.range i).filter P
theorem fr_succ (P : Nat → Bool) (i : Nat) : fr P (i + 1) = if P i = true then fr P i ++ [i] else fr P i := by
  unfold fr
  rw [List.range_succ, List.filter_append]
  by_cases z : P i = true
  · rw [if_pos z]
    simp [z]
  · rw [if_neg z]
    simp [z]
theorem fr_len (P : Nat → Bool) (i : Nat) : (fr P i).length ≤ i := by
  have := List.length_filter_le P (List.range i)
  rw [List.length_range] at this
  exact this
theorem fr_congr {P P' : Nat → Bool} {i : Nat} (h : ∀ j, j < i → P j = P' j) : fr P i = fr P' i := List.filter_congr fun j hj => h j (List.mem_range.mp hj)
theorem few_line {n : Nat} (h : n < 1000000) : n < sizeLine := Nat.lt_of_lt_of_le h sizeLine_ge
/-- a loop over enumerate(list): each turn's pair is new -/
theorem for_enumL {K : PySem.W.Frag} {a : Addr} {xs : List V} {g : TG} {tb : TS} {D : Ends} {σ : L2.St} {H : Hp} (Pv : Nat → L2.St → Hp → Prop) (h0 : Pv 0 σ H) (hl : ∀ i σ G, Pv i σ G → G a = some (.lst xs))
    (hs : ∀ i x σ G T G1, xs[i]? = some x → Pv i σ G → G T = none → Same G G1 → G1 T = some (.tup [.int (i : Nat), x]) → g (.ref T) σ G1 fun σ2 H2 => tb { D with nx := Pv (i + 1), ct := Pv (i + 1), bk := D.nx } σ2 H2)
    (hd : ∀ σ G, Pv xs.length σ G → D.nx σ G) :
    ∃ W : Nat → Nat → L2.St → Hp → Prop, (∃ m, W 0 m σ H) ∧ ∀ i m σ G, W i m σ G → ((Ite K a).stop i G ∧ D.nx σ G) ∨
      ((Ite K a).go i G ∧ ∃ N : L2.St → Hp → Prop, (∀ σ' G', N σ' G' → ∃ m', m' < m ∧ W (i + 1) m' σ' G') ∧ ∀ x G', (Ite K a).yld i G x G' → g x σ G' fun σ2 H2 => tb { D with nx := N, ct := N, bk := D.nx } σ2 H2) := by
  refine ⟨fun i m σ G => m = xs.length - i ∧ i ≤ xs.length ∧ Pv i σ G, ⟨xs.length, rfl, Nat.zero_le _, h0⟩, fun i m σ G z => ?_⟩
  obtain ⟨rfl, hi, p⟩ := z
  have ha := hl i σ G p
  rcases Nat.lt_or_ge i xs.length with lt | ge
  · refine .inr ⟨⟨xs, xs[i], SqL.of ha, List.getElem?_eq_getElem lt⟩, Pv (i + 1), fun σ' G' p' => ⟨xs.length - (i + 1), by omega, rfl, lt, p'⟩, fun x G' y => ?_⟩
    obtain ⟨T, x', rfl, nT, rfl, hx⟩ := y
    exact hs i x' σ G T _ (hx xs (SqL.of ha)) p nT (same_new nT) upd_same
  · obtain rfl : i = xs.length := by omega
    exact .inl ⟨⟨xs, SqL.of ha, Nat.le_refl _⟩, hd σ G p⟩
end Pw

namespace Pw
open PySem PySem.Spec PyProof.Rows L2 SX TL
theorem sum_fr (P : Nat → Bool) (f : Nat → Int) : ∀ d : Nat, ((fr P d).map f).sum = Pm.SI (fun c => if P c = true then f c else 0) d
  | 0 => rfl
  | d + 1 => by
    rw [fr_succ]
    show _ = Pm.SI _ d + (if P d = true then f d else 0)
    rw [← sum_fr P f d]
    by_cases z : P d = true
    · rw [if_pos z, if_pos z, List.map_append, List.sum_append]
      simp
    · rw [if_neg z, if_neg z, Int.add_zero]
/-- the marks counted -/
theorem count_cnt {e d r : Nat} : ∀ R : Nat, ((List.range R).map fun i => (((i + 1) ^ e % d : Nat) : Int)).count (r : Int) = Pm.cntR R e d r
  | 0 => by rw [Pm.cntR_zero]; rfl
  | R + 1 => by
    rw [List.range_succ, List.map_append, List.count_append, count_cnt R, Pm.cntR_succ, Pm.I_ite]
    congr 1
    show List.count (r : Int) [(((R + 1) ^ e % d : Nat) : Int)] = _
    by_cases z : (R + 1) ^ e % d = r
    · rw [if_pos z, z]; simp
    · rw [if_neg z, List.count_eq_zero, List.mem_singleton]
      exact fun w => z (Int.ofNat.inj w).symm
theorem root_of_pow {b e : Nat} (he : 1 ≤ e) : Pm.IsRoot (b ^ e) e b := ⟨Nat.le_refl _, Nat.pow_lt_pow_left (Nat.lt_succ_self b) (by omega)⟩
theorem root_few {b e M R : Nat} (he : 1 ≤ e) (hM : Pm.IsRoot M e R) (hb : b ≤ R) : Pm.IsRoot (min M ((b + 1) ^ e - 1)) e b := by
  have h1 : b ^ e ≤ R ^ e := Nat.pow_le_pow_left hb e
  have h2 : b ^ e < (b + 1) ^ e := Nat.pow_lt_pow_left (Nat.lt_succ_self b) (by omega)
  have h3 := hM.1
  constructor <;> omega
theorem cnt_by {R e d r k : Nat} (hd : 0 < d) (h : Pm.sumF (fun b => decide (b ^ e % d = r)) (R : Int) d = (k : Int)) : Pm.cntR R e d r = k := by
  have := Pm.sumF_cnt (e := e) (r := r) hd R
  omega
/-! ### contracts -/
def spCountRest : Sp := fun vs H Q _ => ∃ n e d r : Nat, vs = [.int (n : Int), .int (e : Int), .int (d : Int), .int (r : Int)] ∧ 1 ≤ e ∧ e ≤ 200 ∧ n < 2 ^ 140 ∧ 1 ≤ d ∧ d ≤ 1000 ∧ ∀ (R : Nat) (H' : Hp), Pm.IsRoot n e R → Same H H' → Q (.int ((Pm.cntR R e d r : Nat) : Int)) H'
def spLawRest : Sp := fun vs H Q _ => ∃ b e d : Nat, vs = [.int (b : Int), .int (e : Int), .int (d : Int)] ∧ b < d ∧ e ≤ 200 ∧ d ≤ 1000 ∧ Q (.int ((b ^ e % d : Nat) : Int)) H
def spDue20 : Sp := fun vs H Q _ => ∃ R e d r : Nat, vs = [.int (R : Int), .int (e : Int), .int (d : Int), .int (r : Int)] ∧ 1 ≤ e ∧ e ≤ 200 ∧ 1 ≤ d ∧ d ≤ 1000 ∧ Q (.int ((Pm.cntR R e d r : Nat) : Int)) H
def spRestD : Sp := fun vs H Q _ => ∃ (p : Addr) (n e d : Nat), vs = [.ref p, .int (e : Int), .int (d : Int)] ∧ SeedAt H p n ∧ n ≤ 2 ^ 40 + 200 ∧ 1 ≤ d ∧ d ≤ 1000 ∧ e ≤ 200 ∧ ∀ (r : Nat) (H' : Hp), Keep p H H' → SeedAt H' p (n + 6) → Q (.int (r : Int)) H'
end Pw

namespace Pm
/-- whether n can be a power by e, by all divisors to M -/
def CanP (n e M : Nat) : Prop := 1 ≤ n ∧ ∀ d, 2 ≤ d → d ≤ M → IsRst d e (n % d)
noncomputable def canB (n e M : Nat) : Bool := @decide (CanP n e M) (Classical.propDecidable _)
theorem canB_t {n e M : Nat} (h : CanP n e M) : canB n e M = true := @decide_eq_true _ (Classical.propDecidable _) h
theorem canB_f {n e M : Nat} (h : ¬ CanP n e M) : canB n e M = false := @decide_eq_false _ (Classical.propDecidable _) h
theorem canB_of {n e M : Nat} (h : canB n e M = true) : CanP n e M := @of_decide_eq_true _ (Classical.propDecidable _) h
theorem CanP.less {n e M m : Nat} (h : CanP n e M) (l : m ≤ M) : CanP n e m := ⟨h.1, fun d a b => h.2 d a (Nat.le_trans b l)⟩
theorem CanP.pow {b e M : Nat} (hb : 1 ≤ b) : CanP (b ^ e) e M := ⟨Nat.pow_pos hb, fun d a _ => rst_of e b (by omega)⟩
theorem can_few {n e M : Nat} (hn : 1 ≤ n) (h : ∀ d, d ≤ M → 2 ≤ d → IsRst d e (n % d)) : CanP n e M := ⟨hn, fun d a b => h d b a⟩
theorem GrP.uniq {M p q q' : Nat} (h : GrP M p q) (h' : GrP M p q') (p2 : 2 ≤ p) : q' = q := by
  have a := h
  have b := h'
  obtain ⟨k, _, rfl, h1, _⟩ := a
  obtain ⟨k', _, rfl, h1', _⟩ := b
  exact Nat.dvd_antisymm (h.dvd p2 h1') (h'.dvd p2 h1)
end Pm
namespace Pw
open PySem PySem.Spec PyProof.Rows L2 SX TL
theorem flat_nn (zs : List Nat) : (nn zs).all flatV = true := by
  rw [List.all_eq_true]
  intro x hx
  obtain ⟨i, _, rfl⟩ := List.mem_map.mp hx
  rfl
theorem inV_nn (k : Nat) (zs : List Nat) : inV (.int (k : Int)) (nn zs) = decide (k ∈ zs) := by
  unfold inV
  rw [Bool.eq_iff_iff, List.any_eq_true, decide_eq_true_iff]
  constructor
  · rintro ⟨y, hy, e⟩
    obtain ⟨i, hi, rfl⟩ := List.mem_map.mp hy
    obtain ⟨m, hm, rfl⟩ := List.mem_map.mp hi
    have e' : ((m : Int) == (k : Int)) = true := e
    have : m = k := by
      have := eq_of_beq e'
      omega
    rw [← this]
    exact hm
  · intro h
    exact ⟨.int (k : Int), List.mem_map.mpr ⟨(k : Int), List.mem_map.mpr ⟨k, h, rfl⟩, rfl⟩, beq_self_eq_true (k : Int)⟩
theorem r_notInT {K : PySem.W.Frag} {H : Hp} {Q : VK} {p : Addr} {k : Nat} {zs : List Nat} (h : H p = some (.tup (nn zs))) (q : Q (.bl (!decide (k ∈ zs))) H) : rIn K true (.int (k : Int)) (.ref p) H Q :=
  ⟨p, nn zs, rfl, .inr (SqT.of h), rfl, flat_nn zs, by rw [if_pos rfl, inV_nn]; exact q⟩
theorem r_notInL {K : PySem.W.Frag} {H : Hp} {Q : VK} {p : Addr} {k : Nat} {zs : List Nat} (h : H p = some (.lst (nn zs))) (q : Q (.bl (!decide (k ∈ zs))) H) : rIn K true (.int (k : Int)) (.ref p) H Q :=
  ⟨p, nn zs, rfl, .inl (SqL.of h), rfl, flat_nn zs, by rw [if_pos rfl, inV_nn]; exact q⟩
theorem r_inL {K : PySem.W.Frag} {H : Hp} {Q : VK} {p : Addr} {k : Nat} {zs : List Nat} (h : H p = some (.lst (nn zs))) (q : Q (.bl (decide (k ∈ zs))) H) : rIn K false (.int (k : Int)) (.ref p) H Q :=
  ⟨p, nn zs, rfl, .inl (SqL.of h), rfl, flat_nn zs, by rw [if_neg (by decide), inV_nn]; exact q⟩
def spGrP : Sp := fun vs H Q _ => ∃ M p : Nat, vs = [.int (M : Int), .int (p : Int)] ∧ 2 ≤ p ∧ p ≤ M ∧ M ≤ 200 ∧ ∀ q : Nat, Pm.GrP M p q → Q (.int (q : Int)) H
def spCanBe : Sp := fun vs H Q _ => ∃ n e M : Nat, vs = [.int (n : Int), .int (e : Int), .int (M : Int)] ∧ e ≤ 200 ∧ M ≤ 200 ∧ ∀ H', Same H H' → Q (.bl (Pm.canB n e M)) H'
def spDue21 : Sp := fun vs H Q _ => ∃ n e M : Nat, vs = [.int (n : Int), .int (e : Int), .int (M : Int)] ∧ e ≤ 200 ∧ M ≤ 200 ∧ ∀ H', Same H H' → Q (.bl (Pm.canB n e M)) H'
def spRests21 : Sp := fun vs H Q _ => ∃ d e : Nat, vs = [.int (d : Int), .int (e : Int)] ∧ 1 ≤ d ∧ d ≤ 1000 ∧ e ≤ 200 ∧ ∀ (p : Addr) (H' : Hp), H p = none → Same H H' → H' p = some (.lst (marks d fun r => decide (Pm.IsRst d e r))) → Q (.ref p) H'
def spSeedN : Sp := fun vs H Q _ => ∃ (d : Addr) (n m : Nat), vs = [.ref d, .int (m : Int)] ∧ SeedAt H d n ∧ n ≤ 2 ^ 40 ∧ m ≤ 10 ^ 40 ∧ ∀ H', Keep d H H' → SeedAt H' d (n + 100) → Q (.bl true) H'
/-- where one way of an if goes on as the other -/
theorem r_cutK {c : Bool} {A X : Prop} {D : Ends} {σ : L2.St} {H : Hp} (h : ∀ H', Same H H' → tNext D σ H') (hA : c = true → (∀ H', Same H H' → tNext D σ H') → A) : if c = true then A else (if false = true then X else tNext D σ H) := by
  by_cases z : c = true
  · rw [if_pos z]; exact hA z h
  · rw [if_neg z]; exact h H (Same.refl _)
theorem r_isBl {H : Hp} {Q : VK} {a b : Bool} (q : Q (.bl (decide (a = b))) H) : rIsB (.bl a) (.bl b) H Q := ⟨a, b, rfl, rfl, q⟩
theorem r_notBl {H : Hp} {Q : VK} {a b : Bool} (q : Q (.bl (!decide (a = b))) H) : rNotB (.bl a) (.bl b) H Q := ⟨a, b, rfl, rfl, q⟩
end Pw

namespace Pm
theorem root_mono {l l' m r r' : Nat} (h : IsRoot l m r) (h' : IsRoot l' m r') (le : l' ≤ l) : r' ≤ r := Nat.le_of_not_lt fun z => by
  have h1 : (r + 1) ^ m ≤ r' ^ m := Nat.pow_le_pow_left z m
  have := h.2
  have := h'.1
  omega
/-- what parted tells -/
structure Parted (n m : Nat) (L : List (Nat × Nat)) (l D : Nat) : Prop where
  pt : Pt n L l D
  d2 : 2 ≤ D
  small : 2 ^ L.length * l ≤ n
  end' : l < D ^ m
theorem Parted.len {n m l D : Nat} {L : List (Nat × Nat)} (h : Parted n m L l D) (hn : n < 2 ^ 60) : L.length ≤ 60 := by
  refine Nat.le_of_not_lt fun z => ?_
  have h1 : 2 ^ 60 ≤ 2 ^ L.length := Nat.pow_le_pow_right (by decide) (by omega)
  have h2 : 2 ^ L.length * 1 ≤ 2 ^ L.length * l := Nat.mul_le_mul_left _ h.pt.l1
  have := h.small
  omega
end Pm
namespace Pw
open PySem PySem.Spec PyProof.Rows L2 SX TL
def spParted : Sp := fun vs H Q _ => ∃ n m : Nat, vs = [.int (n : Int), .int (m : Int)] ∧ 1 ≤ n ∧ n < 2 ^ 60 ∧ 1 ≤ m ∧ m ≤ 201 ∧
  ∀ (L : List (Nat × Nat)) (l D : Nat) (p a : Addr) (ps : List Addr) (H' : Hp), Pm.Parted n m L l D → H p = none → H a = none → p ≠ a → Same H H' → H' p = some (.tup [.ref a, .int (l : Int)]) → H' a = some (.lst (ps.map V.ref)) → PairsAt H' ps L → Q (.ref p) H'
def spPrimesOf : Sp := fun vs H Q _ => ∃ n : Nat, vs = [.int (n : Int)] ∧ 1 ≤ n ∧ n < 2 ^ 60 ∧
  ∀ (L : List (Nat × Nat)) (a : Addr) (ps : List Addr) (H' : Hp), Pm.Fa n L → L.length ≤ 61 → H a = none → Same H H' → H' a = some (.lst (ps.map V.ref)) → PairsAt H' ps L → Q (.ref a) H'
end Pw

/-! ### classes of the text: their methods, and what is made of them -/
namespace Pw
open PySem PySem.Spec PyProof.Rows L2 SX TL
structure PlM (K : PySem.W.Frag) (C : Addr) (m qual : Str) (st : Stmt) (ps : List Str) : Prop where
  ex : ∃ (f : Addr) (fd : FuncData), Fun K m qual st f fd ∧ Meth K C m f ∧ Binds K fd ps []
structure DefM (P : Program) (w : World) (K : PySem.W.Frag) (mg : Str → Option Value) (base : Heap) (C : Addr) (k : Nat) (m : Str) (ps : List Str) (sp : Sp) : Prop where
  ex : ∃ (f : Addr) (fd : FuncData), FnOk P w K mg base CX0 k f fd ps sp ∧ Meth K C m f ∧ Binds K fd ps []
structure ClsD (P : Program) (w : World) (K : PySem.W.Frag) (mg : Str → Option Value) (base : Heap) (C : Addr) (x : Str) (k : Nat) (sp : Sp) : Prop where
  ex : ∃ (f : Addr) (fd : FuncData), Mk K C f ∧ FnOk P w K mg base CX0 k f fd ["self"] sp ∧ Binds K fd ["self"] [] ∧ mg x = some (.ref C)
section
variable {P : Program} {w : World} {K : PySem.W.Frag} {mg : Str → Option Value} {base : Heap}
theorem PlM.ok {C : Addr} {m qual : Str} {st : Stmt} {N ps : List Str} {k : Nat} {sp : Sp} (F : PlM K C m qual st ps) (S : FnScope N ps (defScope st)) (len : ∀ vs H Q E, sp vs H Q E → vs.length = ps.length)
    (hbody : ∀ (f : Addr) (cdv : Value) (A : Around) (outer : List Env) (s : Shared) (H : Hp) (vs : List V) (Q : VK) (E : XK), Room k (A.deeper (envOfC qual (defScope st) s.heap.objs.size f cdv)) → sp vs H Q E →
      ∃ t, PSs (cxOf CX0 P w K mg base N qual (defScope st) f cdv A outer s H E).nox (defBody st) t ∧ t { nx := fun _ H' => Q .non H', rt := Q } (start N vs) H) : DefM P w K mg base C (k + 1) m ps sp := by
  obtain ⟨f, fd, F, m, b⟩ := F.ex
  exact ⟨f, fd, F.ok S len (hbody f), m, b⟩
theorem DefM.cls {C : Addr} {x : Str} {k : Nat} {sp : Sp} (D : DefM P w K mg base C k "__init__" ["self"] sp) (mk : PySem.W.makesIn K C = true) (kc : PySem.W.keepIn K (.ref C) = true) (hx : mg x = some (.ref C)) : ClsD P w K mg base C x k sp := by
  obtain ⟨f, fd, F, m, b⟩ := D.ex
  exact ⟨f, fd, ⟨mk, m.at_, m.fn, kc⟩, F, b, hx⟩
theorem plm_mk {C : Addr} {m qual : Str} {st : Stmt} {ps : List Str} {f : Addr} {oc : Value} {od an : Option Addr} {osl : Array (Option Value)} {kV doc pm cdv ct : Value}
    (a : PySem.W.findIn K (.ref C) m = some (some (.ref f))) (i : PySem.W.isFn K (.ref f) = true)
    (l : K.lookup f = some ⟨oc, od, .func (PySem.W.fnOf m qual (defArgs st) (defBody st) (defScope st) .none kV doc pm an cdv ct), osl⟩) (c : PySem.W.codeIn K cdv qual = true) (k : PySem.W.keepIn K (.ref f) = true)
    (hb : Binds K (PySem.W.fnOf m qual (defArgs st) (defBody st) (defScope st) .none kV doc pm an cdv ct) ps []) : PlM K C m qual st ps := ⟨f, _, fun_mk l c k, ⟨a, i, k⟩, hb⟩
end
section
variable {X : Cx} {C : Addr} {k j : Nat} {x m : Str} {ps : List Str} {sp : Sp} {o e : Expr} {es : List Expr} {ta : TE} {t : TA} {apos pos p : Pos}
theorem pe_mth {pl : Sem Bool} (c : Cls X.K C) (D : DefM X.prog X.w X.K X.mg X.base C k m ps sp) (hr : Room j X.A) (he : PE X o ta) (ha : PA X (e :: es) t) (hk : k ≤ j := by decide)
    (hst : starEach (e :: es) X.env = (false, eval e X.env) :: starEach es X.env := by rfl) (hpl : (backTo pos (starEach es X.env)).any (·.1) = false := by rfl)
    (ht : eval (.Call (.Attribute o m apos) (e :: es) [] pos) X.env = (do
      let ov ← eval o X.env
      standAt apos.atName
      let (f, first) ← holding [ov] (getMethod ov m pl)
      callWith pos f first (backTo pos (starEach (e :: es) X.env)) (backToKw pos (keywordEach [] X.env))) := by rfl) : PE X (.Call (.Attribute o m apos) (e :: es) [] pos) (tMeth C m sp [] E0 ta t) := by
  obtain ⟨f, fd, F, hm, b⟩ := D.ex
  exact pe_meth he c hm F (hr.mono hk) b .nil pass0 ha hst hpl ht
theorem pe_mth0 {pl : Sem Bool} (c : Cls X.K C) (D : DefM X.prog X.w X.K X.mg X.base C k m ps sp) (hr : Room j X.A) (he : PE X o ta) (hk : k ≤ j := by decide)
    (ht : eval (.Call (.Attribute o m apos) [] [] pos) X.env = (do
      let ov ← eval o X.env
      standAt apos.atName
      let (f, first) ← holding [ov] (getMethod ov m pl)
      callWith pos f first (backTo pos (starEach [] X.env)) (backToKw pos (keywordEach [] X.env))) := by rfl) : PE X (.Call (.Attribute o m apos) [] [] pos) (tMeth C m sp [] E0 ta tNil) := by
  obtain ⟨f, fd, F, hm, b⟩ := D.ex
  exact pe_meth0 he c hm F (hr.mono hk) b .nil pass0 ht
theorem pe_mk0 (M : ClsD X.prog X.w X.K X.mg X.base C x k sp) (hr : Room j X.A) (hg : Gl X x) (hk : k + 1 ≤ j := by decide) (hdb : (x == ("__debug__" : Str)) = false := by decide) : PE X (.Call (.Name x p) [] [] pos) (tMake C sp [] E0 tNil) := by
  obtain ⟨f, fd, M, F, b, hx⟩ := M.ex
  exact pe_make0 M F (hr.mono hk) hg hx b .nil pass0 hdb
end
section
variable {K : PySem.W.Frag} {C : Addr} {m f : Str} {sp : Sp} {E : XK} {ta tv : TE} {t : TA} {σ : L2.St} {H : Hp} {Q : VK} {D : Ends}
theorem r_mth (h : ta σ H fun x H1 => ∃ a dx fs, x = .ref a ∧ H1 a = some (.ins C dx fs) ∧ fs.lookup m = none ∧ t σ H1 fun vs H2 => sp (x :: vs) H2 Q E) : tMeth C m sp [] E ta t σ H Q := by
  have e : (fun (x : V) vs H2 => sp (x :: (vs ++ [])) H2 Q E) = fun x vs H2 => sp (x :: vs) H2 Q E := by
    funext x vs H1
    rw [List.append_nil]
  show ta σ H fun x H1 => ∃ a dx fs, x = .ref a ∧ H1 a = some (.ins C dx fs) ∧ fs.lookup m = none ∧ t σ H1 fun vs H2 => (fun (x : V) vs H2 => sp (x :: (vs ++ [])) H2 Q E) x vs H2
  rw [e]
  exact h
theorem r_fld (h : ta σ H fun x H1 => ∃ a C dx fs v, x = .ref a ∧ H1 a = some (.ins C dx fs) ∧ Cls K C ∧ NoAttr K C f ∧ fs.lookup f = some v ∧ Q v H1) : tFld K ta f σ H Q := h
theorem r_sfld (h : tv σ H fun y H1 => ta σ H1 fun x H2 => ∃ a C dx fs, x = .ref a ∧ H2 a = some (.ins C dx fs) ∧ Cls K C ∧ NoAttr K C f ∧ fs.length < 1000 ∧ D.nx σ (upd H2 a (.ins C dx (putF f y fs)))) : sFld K ta tv f D σ H := h
theorem r_make0 (h : ∀ x dx, H x = none → H dx = none → dx ≠ x → sp [.ref x] (upd (upd H dx (.own x)) x (.ins C dx [])) (fun v H2 => v = .non ∧ Q (.ref x) H2) E) : tMake C sp [] E tNil σ H Q := h
theorem r_gcd {a b : Nat} (q : Q (.int ((Nat.gcd a b : Nat) : Int)) H) : rGcd [.int (a : Int), .int (b : Int)] H Q := ⟨a, b, rfl, by rw [Int.natAbs_natCast, Int.natAbs_natCast]; exact q⟩
theorem r_values (td : TE) {R : It → Hp → Prop} (h : td σ H fun x H1 => ∃ d o kvs, x = .ref d ∧ H1 d = some (.frz o (.dK kvs)) ∧ R (Itd d o kvs) H1) : iVals td σ H R := h
theorem r_items (td : TE) {R : It → Hp → Prop} (h : td σ H fun x H1 => ∃ d o kvs, x = .ref d ∧ H1 d = some (.frz o (.dK kvs)) ∧ R (Iti d o kvs) H1) : iItems td σ H R := h
theorem r_ddel {td ty : TE} (h : td σ H fun x H1 => ty σ H1 fun y H2 => ∃ a kvs k, x = .ref a ∧ H2 a = some (.dK kvs) ∧ y = kV k ∧ (valV kvs k).isSome = true ∧ D.nx σ (upd H2 a (.dK (dropK kvs k)))) : sDDel td ty D σ H := h
end
/-! ### a kept product -/
abbrev fN : Str := "_numbers"
abbrev fT : Str := "_times"
theorem fNT : ¬ (fN = fT) := by decide +kernel
def kFlds (l d : Addr) : List (Str × V) := putF fT (.ref d) (putF fN (.ref l) [])
theorem kFlds_N (l d : Addr) : (kFlds l d).lookup fN = some (.ref l) := by
  unfold kFlds
  rw [lookup_putF, if_neg fNT, lookup_putF, if_pos rfl]
theorem kFlds_T (l d : Addr) : (kFlds l d).lookup fT = some (.ref d) := by
  unfold kFlds
  rw [lookup_putF, if_pos rfl]
theorem kFlds_no (l d : Addr) {m : Str} (h1 : ¬ m = fT) (h2 : ¬ m = fN) : (kFlds l d).lookup m = none := by
  unfold kFlds
  rw [lookup_putF, if_neg h1, lookup_putF, if_neg h2]
  rfl
/-- a table of how often each prime is there -/
def TP (H : Hp) (d : Addr) (f : Nat → Nat) : Prop := ∃ ks, FT H d ks f ∧ (∀ p, p ∈ ks ↔ Pm.Prime p ∧ 0 < f p) ∧ ∀ p ∈ ks, p ≤ 1000000
theorem TP.same {H H' : Hp} {d : Addr} {f : Nat → Nat} (h : TP H d f) (s : ∀ o, H d = some o → H' d = some o) : TP H' d f := by
  obtain ⟨ks, ⟨h0, kvs, h1, h2⟩, h3⟩ := h
  exact ⟨ks, ⟨h0, kvs, s _ h1, h2⟩, h3⟩
theorem TP.len {H : Hp} {d : Addr} {ks : List Nat} {f : Nat → Nat} (h : FT H d ks f) (hk : ∀ p, p ∈ ks ↔ Pm.Prime p ∧ 0 < f p) (hs : ∀ p ∈ ks, p ≤ 1000000) : ks.length < 1000000 := by
  have h1 : ks.length ≤ ((List.range 1000001).drop 2).length := List.Nodup.length_le_of_subset h.1 fun p hp => by
    have h2 := hs p hp
    have h3 := ((hk p).mp hp).1.1
    rw [List.mem_iff_getElem]
    refine ⟨p - 2, by rw [List.length_drop, List.length_range]; omega, ?_⟩
    rw [List.getElem_drop, List.getElem_range]
    omega
  rw [List.length_drop, List.length_range] at h1
  omega
structure KCls (K : PySem.W.Frag) (C : Addr) : Prop where
  cl : Cls K C
  nN : NoAttr K C fN
  nT : NoAttr K C fT
/-- the kept product at x: its list at l, its table at d, the numbers ns -/
structure KAt (C : Addr) (H : Hp) (x l d : Addr) (ns : List Nat) : Prop where
  ob : ∃ dx, H x = some (.ins C dx (kFlds l d))
  li : H l = some (.lst (nn ns))
  ti : TP H d fun p => Pm.val p ns
  sm : Pm.Sm ns
/-- all but the product's own list and table stays -/
def KeepK (l d : Addr) (H H' : Hp) : Prop := ∀ b o, b ≠ l → b ≠ d → H b = some o → H' b = some o
theorem KeepK.of {l d : Addr} {H H' : Hp} (s : Same H H') : KeepK l d H H' := fun b o _ _ h => s b o h
theorem KeepK.trans {l d : Addr} {H H1 H2 : Hp} (a : KeepK l d H H1) (b : KeepK l d H1 H2) : KeepK l d H H2 := fun c o n1 n2 h => b c o n1 n2 (a c o n1 n2 h)
theorem KAt.same {C : Addr} {H H' : Hp} {x l d : Addr} {ns : List Nat} (h : KAt C H x l d ns) (s : Same H H') : KAt C H' x l d ns := by
  obtain ⟨dx, h1⟩ := h.ob
  exact ⟨⟨dx, s _ _ h1⟩, s _ _ h.li, h.ti.same (s d), h.sm⟩
theorem KAt.nxl {C : Addr} {H : Hp} {x l d : Addr} {ns : List Nat} (h : KAt C H x l d ns) : x ≠ l := by
  obtain ⟨dx, h1⟩ := h.ob
  exact ne_of h1 h.li (by intro z; cases z)
theorem KAt.nxd {C : Addr} {H : Hp} {x l d : Addr} {ns : List Nat} (h : KAt C H x l d ns) : x ≠ d := by
  obtain ⟨dx, h1⟩ := h.ob
  obtain ⟨ks, ⟨_, kvs, h2, _⟩, _⟩ := h.ti
  exact ne_of h1 h2 (by intro z; cases z)
theorem KAt.nld {C : Addr} {H : Hp} {x l d : Addr} {ns : List Nat} (h : KAt C H x l d ns) : l ≠ d := by
  obtain ⟨ks, ⟨_, kvs, h2, _⟩, _⟩ := h.ti
  exact ne_of h.li h2 (by intro z; cases z)
/-! ### the promises -/
def spKInit (C : Addr) : Sp := fun vs H Q _ => ∃ (x dx : Addr), vs = [.ref x] ∧ H x = some (.ins C dx []) ∧ ∀ (l d : Addr) (H' : Hp), H l = none → H d = none → KAt C H' x l d [] → (∀ b o, H b = some o → b ≠ x → H' b = some o) → Q .non H'
def spKCount (C : Addr) : Sp := fun vs H Q _ => ∃ (x l d dx : Addr) (f f' : Nat → Nat) (n : Nat) (s : Int), vs = [.ref x, .int (n : Int), .int s] ∧ H x = some (.ins C dx (kFlds l d)) ∧ TP H d f ∧ (s = 1 ∨ s = -1) ∧ 1 ≤ n ∧ n ≤ 1000000 ∧
  (∀ p, Pm.Prime p → ((f' p : Nat) : Int) = (f p : Int) + s * (Pm.vl p n : Int)) ∧ ∀ H', TP H' d f' → Keep d H H' → Q .non H'
def spKCome (C : Addr) : Sp := fun vs H Q _ => ∃ (x l d : Addr) (ns : List Nat) (n : Nat), vs = [.ref x, .int (n : Int)] ∧ KAt C H x l d ns ∧ ns.length ≤ 130 ∧ 1 ≤ n ∧ n ≤ 1000000 ∧ ∀ H', KAt C H' x l d (ns ++ [n]) → KeepK l d H H' → Q .non H'
def spKGo (C : Addr) : Sp := fun vs H Q _ => ∃ (x l d : Addr) (ns : List Nat) (n j : Nat), vs = [.ref x, .int (n : Int)] ∧ KAt C H x l d ns ∧ ns[j]? = some n ∧ (∀ m : Nat, m < j → ns[m]? ≠ some n) ∧ ∀ H', KAt C H' x l d (ns.eraseIdx j) → KeepK l d H H' → Q .non H'
def spKNums (C : Addr) : Sp := fun vs H Q _ => ∃ (x l d : Addr) (ns : List Nat), vs = [.ref x] ∧ KAt C H x l d ns ∧ ns.length ≤ 130 ∧ ∀ (zs : List Nat) (p : Addr) (H' : Hp), zs.Perm ns → zs.Pairwise (· ≤ ·) → H p = none → Same H H' → H' p = some (.tup (nn zs)) → Q (.ref p) H'
def spKExp (C : Addr) : Sp := fun vs H Q _ => ∃ (x l d : Addr) (ns : List Nat), vs = [.ref x] ∧ KAt C H x l d ns ∧ ns.length ≤ 130 ∧ ∀ (g : Nat) (H' : Hp), Pm.KExp (fun p => Pm.val p ns) g → Same H H' → Q (.int (g : Int)) H'
def spKLacks (C : Addr) : Sp := fun vs H Q _ => ∃ (x l d : Addr) (ns : List Nat) (e : Nat), vs = [.ref x, .int (e : Int)] ∧ KAt C H x l d ns ∧ ns.length ≤ 130 ∧ 1 ≤ e ∧ e ≤ 200 ∧ ∀ (v : Nat) (H' : Hp), Pm.KLack (fun p => Pm.val p ns) e v → v < 2 ^ 11000000 → Same H H' → Q (.int (v : Int)) H'
/-! ### one key less -/
theorem FT.del {H : Hp} {d : Addr} {ks : List Nat} {f : Nat → Nat} {σ : L2.St} {D : Ends} (h : FT H d ks f) {k0 : Nat} (hk : k0 ∈ ks) (q : ∀ H', Keep d H H' → FT H' d (ks.filter fun k => decide (k ≠ k0)) f → D.nx σ H') :
    ∃ a kvs k, V.ref d = .ref a ∧ H a = some (.dK kvs) ∧ V.int (k0 : Int) = kV k ∧ (valV kvs k).isSome = true ∧ D.nx σ (upd H a (.dK (dropK kvs k))) := by
  obtain ⟨h0, kvs, h1, h2⟩ := h
  refine ⟨d, kvs, .inl (k0 : Int), rfl, h1, rfl, ?_, q _ Keep.upd ⟨h0.filter _, _, upd_same, ?_⟩⟩
  · rw [h2, ft_val, if_pos hk]
    rfl
  · rw [h2]
    unfold dropK
    rw [List.filter_map]
    congr 1
    refine List.filter_congr fun k _ => ?_
    show decide (¬ ((Sum.inl (k : Int) : Key) = .inl (k0 : Int))) = decide (¬ (k = k0))
    rw [decide_eq_decide]
    exact not_congr ⟨fun z => by have := Sum.inl.inj z; omega, fun z => by rw [z]⟩
theorem TP.congrT {H : Hp} {d : Addr} {f g : Nat → Nat} (h : TP H d f) (e : ∀ p, g p = f p) : TP H d g := by
  have : g = f := funext e
  rw [this]
  exact h
theorem TP.congrP {H : Hp} {d : Addr} {f g : Nat → Nat} (h : TP H d f) (e : ∀ p, Pm.Prime p → g p = f p) : TP H d g := by
  obtain ⟨ks, h1, h2, h3⟩ := h
  refine ⟨ks, h1.congr fun p hp => (e p ((h2 p).mp hp).1).symm, fun p => ?_, h3⟩
  rw [h2]
  exact ⟨fun ⟨a, b⟩ => ⟨a, by rw [e p a]; exact b⟩, fun ⟨a, b⟩ => ⟨a, by rw [← e p a]; exact b⟩⟩
theorem TP.isD {H : Hp} {d : Addr} {f : Nat → Nat} (h : TP H d f) : IsD H d := by
  obtain ⟨ks, h1, _⟩ := h
  exact h1.isD
theorem TP.get0 {H : Hp} {d : Addr} {f : Nat → Nat} {p : Nat} (h : TP H d f) (hp : Pm.Prime p) : ∃ o : Option V, DGet H d (.int (p : Int)) o ∧ o.getD (.int 0) = .int ((f p : Nat) : Int) := by
  obtain ⟨ks, h1, h2, _⟩ := h
  refine ⟨_, h1.get p, ?_⟩
  by_cases m : p ∈ ks
  · rw [if_pos m]; rfl
  · rw [if_neg m]
    have : f p = 0 := Nat.eq_zero_of_not_pos fun w => m ((h2 p).mpr ⟨hp, w⟩)
    rw [this]
    rfl
theorem TP.put {H : Hp} {d : Addr} {f : Nat → Nat} {p v : Nat} {R : Hp → Prop} (h : TP H d f) (hp : Pm.Prime p) (hb : p ≤ 1000000) (v1 : 0 < v) (q : ∀ H', Keep d H H' → TP H' d (fun x => if x = p then v else f x) → R H') :
    ∃ H', DPut H d (.int (p : Int)) (.int (v : Int)) H' ∧ R H' := by
  obtain ⟨ks, h1, h2, h3⟩ := h
  refine h1.put (TP.len h1 h2 h3) p v fun H' k h' => q H' k ⟨_, h', fun x => ?_, fun x hx => ?_⟩
  · rw [mem_mtAdd, h2]
    show _ ↔ Pm.Prime x ∧ 0 < (if x = p then v else f x)
    by_cases z : x = p
    · subst z
      rw [if_pos rfl]
      exact ⟨fun _ => ⟨hp, v1⟩, fun _ => .inr rfl⟩
    · rw [if_neg z]
      exact ⟨fun w => w.resolve_right z, fun w => .inl w⟩
  · rcases mem_mtAdd.mp hx with z | z
    · exact h3 x z
    · rw [z]; exact hb
theorem TP.del {H : Hp} {d : Addr} {f : Nat → Nat} {p : Nat} {σ : L2.St} {D : Ends} (h : TP H d f) (hp : Pm.Prime p) (fp : 0 < f p) (q : ∀ H', Keep d H H' → TP H' d (fun x => if x = p then 0 else f x) → D.nx σ H') :
    ∃ a kvs k, V.ref d = .ref a ∧ H a = some (.dK kvs) ∧ V.int (p : Int) = kV k ∧ (valV kvs k).isSome = true ∧ D.nx σ (upd H a (.dK (dropK kvs k))) := by
  obtain ⟨ks, h1, h2, h3⟩ := h
  refine h1.del ((h2 p).mpr ⟨hp, fp⟩) fun H' k h' => q H' k ⟨_, h'.congr fun x hx => ?_, fun x => ?_, fun x hx => h3 x (List.mem_filter.mp hx).1⟩
  · have : x ≠ p := of_decide_eq_true (List.mem_filter.mp hx).2
    rw [if_neg this]
  · rw [List.mem_filter, decide_eq_true_iff, h2]
    show _ ↔ Pm.Prime x ∧ 0 < (if x = p then 0 else f x)
    by_cases z : x = p
    · subst z
      rw [if_pos rfl]
      exact ⟨fun w => absurd rfl w.2, fun w => absurd w.2 (by omega)⟩
    · rw [if_neg z]
      exact ⟨fun w => w.1, fun w => ⟨w, z⟩⟩
theorem r_sortedIN {K : PySem.W.Frag} {H : Hp} {Q : VK} {p : Addr} {ks : List Nat} (h : SqL K H p (nn ks)) (q : ∀ (zs : List Nat) (l : Addr) (H' : Hp), zs.Perm ks → zs.Pairwise (· ≤ ·) → H l = none → Same H H' → H' l = some (.lst (nn zs)) → Q (.ref l) H') : rSortedI K [.ref p] H Q := by
  refine ⟨p, _, rfl, h, fun ns' l pm pw np => ?_⟩
  obtain ⟨zs, rfl, hz⟩ := cast_list pm
  exact q zs l _ hz ((List.pairwise_map.mp pw).imp fun h => by omega) np (same_new np) upd_same
theorem r_truD {K : PySem.W.Frag} {H : Hp} {d : Addr} {kvs : List (Key × V)} {R : Bool → Prop} (h : H d = some (.dK kvs)) (q : R (!kvs.isEmpty)) : ∃ k, TruV K (.ref d) H k ∧ R k := ⟨_, .inr (.inr ⟨kvs, h, rfl⟩), q⟩
theorem frz_same {H G : Hp} {d : Addr} {od : Obj} {u : HO} (h : H d = some u) (e : G = upd H d (.frz od u)) : upd G d u = H := by
  funext b
  by_cases z : b = d
  · subst z; rw [upd_same, h]
  · rw [upd_ne z, e, upd_ne z]
/-- the i-th value, the i-th key -/
theorem kv_at {ks : List Nat} {f : Nat → Nat} {i : Nat} {k : Key} {v : V} (h : (ks.map fun k : Nat => ((Sum.inl (k : Int) : Key), V.int ((f k : Nat) : Int)))[i]? = some (k, v)) : ∃ x : Nat, ks[i]? = some x ∧ k = .inl (x : Int) ∧ v = .int ((f x : Nat) : Int) := ft_at h
theorem eraseIdx_mp {α β : Type} (f : α → β) : ∀ (l : List α) (j : Nat), (l.map f).eraseIdx j = (l.eraseIdx j).map f
  | [], _ => rfl
  | _ :: _, 0 => rfl
  | a :: l, j + 1 => by
    show f a :: (l.map f).eraseIdx j = f a :: (l.eraseIdx j).map f
    rw [eraseIdx_mp f l j]
end Pw

namespace Pw
open PySem PySem.Spec PyProof.Rows L2 SX TL
/-! ### d == {} -/
def rEqE : R2 := fun x y H Q => ∃ a b ks, x = .ref a ∧ y = .ref b ∧ H a = some (.dK ks) ∧ H b = some (.dK []) ∧ Q (.bl ks.isEmpty) H
theorem op_eqE {X : Cx} (hu : X.A.units + 64 < cLine) : OpR X (compareOp .Eq) rEqE := by
  intro pins s σ H x y v u Q I rx ry h
  obtain ⟨a, b, ks, rfl, rfl, ea, eb, q⟩ := h
  obtain rfl : v = Value.ref a := rx
  obtain rfl : u = Value.ref b := ry
  obtain ⟨_, ya, va, ra, da⟩ := (show ObjOk X.prog X.w H s.heap a (.dK ks) from I.hok a _ ea)
  obtain ⟨_, yb, vb, rb, db⟩ := (show ObjOk X.prog X.w H s.heap b (.dK []) from I.hok b _ eb)
  have lb : vb.length = 0 := rb.length.symm
  have la : va.length = ks.length := ra.length.symm
  refine PySem.W.keq_eq (knd := mixKind X.prog X.w) (r := true) ya yb da db (Nat.lt_of_le_of_lt (Nat.le_add_right _ 64) hu) (fun e => ?_) (fin_bl I q ?_)
  · have : ks = [] := List.eq_nil_of_length_eq_zero (by omega)
    subst this
    exact hits_all rb ra fun p hp => by cases hp
  · rw [lb, la]
    cases ks <;> rfl
section
variable {K : PySem.W.Frag} {H : Hp} {Q : VK} {td : TE} {σ : L2.St}
theorem r_eqE {a b : Addr} {ks : List (Key × V)} (h : H a = some (.dK ks)) (hb : H b = some (.dK [])) (q : Q (.bl ks.isEmpty) H) : rEqE (.ref a) (.ref b) H Q := ⟨a, b, ks, rfl, rfl, h, hb, q⟩
theorem r_minV (h : td σ H fun x H1 => ∃ a kvs is, x = V.ref a ∧ H1 a = some (.dK kvs) ∧ kvs.map (·.2) = is.map V.int ∧ is ≠ [] ∧ ∀ m, m ∈ is → (∀ j ∈ is, m ≤ j) → Q (.int m) H1) : tMinVals td σ H Q := h
end
/-! ### contracts of the law's own going along the primes -/
def spSmall : Sp := fun vs H Q _ => ∃ (d c : Addr) (n : Nat), vs = [.ref d] ∧ DeckAt H d c n ∧ n ≤ 2 ^ 47 ∧ ∀ (r : Nat) (H' : Hp), 1 ≤ r → r ≤ 1000000 → Keep d H H' → DeckAt H' d c (n + 60) → Q (.int (r : Int)) H'
def spLPrimes : Sp := fun vs H Q _ => ∃ n : Nat, vs = [.int (n : Int)] ∧ 1 ≤ n ∧ n ≤ 1000000 ∧ ∀ (zs : List Nat) (p : Addr) (H' : Hp), Pm.Pms n zs → H p = none → Same H H' → H' p = some (.lst (nn zs)) → Q (.ref p) H'
def spOften : Sp := fun vs H Q _ => ∃ (p : Addr) (ns : List Nat), vs = [.ref p] ∧ H p = some (.lst (nn ns)) ∧ Pm.Sm ns ∧ ∀ (d : Addr) (H' : Hp), H d = none → Same H H' → TP H' d (fun p => Pm.val p ns) → Q (.ref d) H'
def spLExp : Sp := fun vs H Q _ => ∃ (d : Addr) (ns : List Nat), vs = [.ref d] ∧ TP H d (fun p => Pm.val p ns) ∧ Pm.Sm ns ∧ ns.length ≤ 130 ∧ ∀ (g : Nat) (H' : Hp), Pm.KExp (fun p => Pm.val p ns) g → Same H H' → Q (.int (g : Int)) H'
def spLLacks : Sp := fun vs H Q _ => ∃ (d : Addr) (ns : List Nat) (e : Nat), vs = [.ref d, .int (e : Int)] ∧ TP H d (fun p => Pm.val p ns) ∧ Pm.Sm ns ∧ ns.length ≤ 130 ∧ 1 ≤ e ∧ e ≤ 200 ∧ ∀ (v : Nat) (H' : Hp), Pm.KLack (fun p => Pm.val p ns) e v → v < 2 ^ 11000000 → Same H H' → Q (.int (v : Int)) H'
theorem at_nats {ns : List Nat} {i : Int} (h0 : 0 ≤ i) (h1 : i < ns.length) : ∃ z, z ∈ ns ∧ atI (nn ns) i = some (.int ((z : Nat) : Int)) ∧ ns[i.toNat]? = some z := by
  obtain ⟨j, rfl⟩ := Int.eq_ofNat_of_zero_le h0
  have hj : j < ns.length := by omega
  exact ⟨ns[j], List.getElem_mem hj, atI_nat (nn_get hj), List.getElem?_eq_getElem hj⟩
theorem r_cutJ {c A : Prop} [Decidable c] {D : Ends} {σ : L2.St} {H : Hp} (σ' : L2.St) (h : D.nx σ' H) (hA : c → D.nx σ' H → A) (e : ¬ c → σ = σ') : if decide c = true then A else tNext D σ H := by
  by_cases z : c
  · rw [if_pos (decide_eq_true z)]; exact hA z h
  · rw [if_neg (by rw [decide_eq_false z]; decide)]
    show D.nx σ H
    rw [e z]; exact h
end Pw

namespace Pw
open PySem PySem.Spec PyProof.Rows L2 SX TL
theorem sorted_uniq {xs ys : List Nat} (p : xs.Perm ys) (hx : xs.Pairwise (· ≤ ·)) (hy : ys.Pairwise (· ≤ ·)) : xs = ys := List.Perm.eq_of_pairwise (fun a b _ _ h1 h2 => Nat.le_antisymm h1 h2) hx hy p
def spAsDue (C : Addr) : Sp := fun vs H Q _ => ∃ (d c : Addr) (n : Nat) (x l t pn : Addr) (ns ms : List Nat), vs = [.ref d, .ref x, .ref pn] ∧ DeckAt H d c n ∧ n ≤ 2 ^ 46 ∧ KAt C H x l t ns ∧ H pn = some (.lst (nn ms)) ∧ ms.Perm ns ∧ ns.length ≤ 60 ∧ l ≠ d ∧ pn ≠ d ∧
  ∀ H', Keep d H H' → DeckAt H' d c (n + 5) → Q (.bl true) H'
theorem KAt.keep {C : Addr} {H H' : Hp} {x l d e : Addr} {ns : List Nat} (h : KAt C H x l d ns) (k : Keep e H H') (n1 : x ≠ e) (n2 : l ≠ e) (n3 : d ≠ e) : KAt C H' x l d ns := by
  obtain ⟨dx, h1⟩ := h.ob
  exact ⟨⟨dx, k _ _ n1 h1⟩, k _ _ n2 h.li, h.ti.same fun o e => k _ _ n3 e, h.sm⟩
theorem KAt.xl {C : Addr} {H : Hp} {x l d e : Addr} {ns : List Nat} {ys : List V} (h : KAt C H x l d ns) (he : H e = some (.lst ys)) : x ≠ e := by
  obtain ⟨dx, h1⟩ := h.ob
  exact ne_of h1 he (by intro z; cases z)
theorem KAt.tl {C : Addr} {H : Hp} {x l d e : Addr} {ns : List Nat} {ys : List V} (h : KAt C H x l d ns) (he : H e = some (.lst ys)) : d ≠ e := by
  obtain ⟨ks, ⟨_, kvs, h2, _⟩, _⟩ := h.ti
  exact ne_of h2 he (by intro z; cases z)
theorem DeckAt.lst {H : Hp} {d c : Addr} {n : Nat} (D : DeckAt H d c n) : ∃ ys, H d = some (.lst ys) := by
  obtain ⟨cells, b, l, m, t, h1, _⟩ := D.ex
  exact ⟨_, h1⟩
theorem DeckAt.lstc {H : Hp} {d c : Addr} {n : Nat} (D : DeckAt H d c n) : ∃ ys, H c = some (.lst ys) := by
  obtain ⟨cells, b, l, m, t, h1, h2, _⟩ := D.ex
  exact ⟨_, h2⟩
theorem DeckAt.keepK {H H' : Hp} {d c l t : Addr} {n : Nat} (D : DeckAt H d c n) (k : KeepK l t H H') (h1 : d ≠ l) (h2 : d ≠ t) (h3 : c ≠ l) (h4 : c ≠ t) : DeckAt H' d c n := by
  obtain ⟨cells, b, l', m, t', e1, e2, e3⟩ := D.ex
  exact ⟨cells, b, l', m, t', k _ _ h1 h2 e1, k _ _ h3 h4 e2, e3⟩
theorem KExp.perm {ns ms : List Nat} (p : ms.Perm ns) : (fun p => Pm.val p ms) = fun p => Pm.val p ns := by
  funext q
  exact Pm.val_perm q p
end Pw

namespace Pw
open PySem PySem.Spec PyProof.Rows L2 SX TL
/-! ### ways of an if that come together -/
theorem r_mrg {c : Bool} {A : Prop} {D : Ends} {σ : L2.St} {H : Hp} (W : L2.St → Hp → Prop) (h0 : c = false → W σ H) (h : ∀ σ' H', W σ' H' → D.nx σ' H') (hA : c = true → (∀ σ' H', W σ' H' → D.nx σ' H') → A) : if c = true then A else tNext D σ H := by
  cases c with
  | true => exact hA rfl h
  | false => exact h _ _ (h0 rfl)
theorem r_mrgF {c : Bool} {A X : Prop} {D : Ends} {σ : L2.St} {H : Hp} (W : L2.St → Hp → Prop) (h0 : c = false → W σ H) (h : ∀ σ' H', W σ' H' → D.nx σ' H') (hA : c = true → (∀ σ' H', W σ' H' → D.nx σ' H') → A) : if c = true then A else (if false = true then X else tNext D σ H) := by
  cases c with
  | true => exact hA rfl h
  | false => exact h _ _ (h0 rfl)
/-- all but the deck, the product's own list and its table stays -/
def KeepD (d l t : Addr) (H H' : Hp) : Prop := ∀ b o, b ≠ d → b ≠ l → b ≠ t → H b = some o → H' b = some o
theorem KeepD.of {d l t : Addr} {H H' : Hp} (k : Keep d H H') : KeepD d l t H H' := fun b o n _ _ e => k b o n e
theorem KeepD.ofK {d l t : Addr} {H H' : Hp} (k : KeepK l t H H') : KeepD d l t H H' := fun b o _ n1 n2 e => k b o n1 n2 e
theorem KeepD.trans {d l t : Addr} {H H1 H2 : Hp} (a : KeepD d l t H H1) (b : KeepD d l t H1 H2) : KeepD d l t H H2 := fun c o n1 n2 n3 e => b c o n1 n2 n3 (a c o n1 n2 n3 e)
def spDeed (C : Addr) : Sp := fun vs H Q _ => ∃ (d c : Addr) (n : Nat) (x l t pn : Addr) (ns ms : List Nat), vs = [.ref d, .ref x, .ref pn] ∧ DeckAt H d c n ∧ n ≤ 2 ^ 46 ∧ KAt C H x l t ns ∧ H pn = some (.lst (nn ms)) ∧ ms.Perm ns ∧ ns.length ≤ 60 ∧ l ≠ d ∧ l ≠ c ∧ pn ≠ d ∧ pn ≠ l ∧
  ∀ (q r : Addr) (ns' ms' : List Nat) (H' : Hp), KAt C H' x l t ns' → ms'.Perm ns' → ns'.length ≤ 60 → H q = none → H r = none → H' q = some (.lst [.non, .ref r]) → H' r = some (.lst (nn ms')) → DeckAt H' d c (n + 100) → KeepD d l t H H' → Q (.ref q) H'
theorem perm_eraseIdx {α : Type} : ∀ {l : List α} {j : Nat} {n : α}, l[j]? = some n → l.Perm (n :: l.eraseIdx j)
  | [], j, n, h => by simp at h
  | x :: l, 0, n, h => by
    have : x = n := by simpa using h
    subst this
    exact List.Perm.refl _
  | x :: l, j + 1, n, h => by
    have h' : l[j]? = some n := by simpa using h
    exact ((perm_eraseIdx h').cons x).trans (List.Perm.swap n x _)
theorem first_at {n : Nat} : ∀ {l : List Nat}, n ∈ l → ∃ j : Nat, l[j]? = some n ∧ ∀ m : Nat, m < j → l[m]? ≠ some n
  | [], h => by simp at h
  | x :: l, h => by
    by_cases z : x = n
    · exact ⟨0, by rw [z]; rfl, fun m hm => absurd hm (Nat.not_lt_zero m)⟩
    · have h' : n ∈ l := (List.mem_cons.mp h).resolve_left fun e => z e.symm
      obtain ⟨j, h1, h2⟩ := first_at h'
      refine ⟨j + 1, h1, fun m hm => ?_⟩
      cases m with
      | zero => exact fun e => z (by simpa using e)
      | succ m => exact h2 m (by omega)
theorem cut_toN (ns : List Nat) (k : Nat) : cutV (nn ns) none (some (k : Int)) = nn (ns.take k) := by
  rw [cut_to, List.map_take, nn, ← List.map_take]
  simp only [List.map_take]
theorem cut_fromN (ns : List Nat) (k : Nat) : cutV (nn ns) (some (k : Int)) none = nn (ns.drop k) := by
  unfold cutV
  rw [HT.sIx_none, HT.sIx_nat, nn_len]
  rw [nn, ← List.map_drop, ← List.map_drop]
  have : (List.drop (min k ns.length) ns).map (fun k : Nat => (k : Int)) = (List.drop k ns).map fun k : Nat => (k : Int) := by
    rcases Nat.le_total k ns.length with h | h
    · rw [Nat.min_eq_left h]
    · rw [Nat.min_eq_right h, List.drop_of_length_le (Nat.le_refl _), List.drop_of_length_le h]
  rw [this]
  refine List.take_of_length_le ?_
  rw [List.length_map, List.length_map, List.length_drop]
  omega
end Pw

namespace Pw
open PySem PySem.Spec PyProof.Rows L2 SX TL
section
variable {K : PySem.W.Frag} {C : Addr} {E : XK} {σ : L2.St} {H : Hp} {Q : VK}
/-- a new kept product -/
theorem r_newK (h : ∀ (x l t : Addr) (H' : Hp), H x = none → H l = none → H t = none → KAt C H' x l t [] → Same H H' → Q (.ref x) H') : tMake C (spKInit C) [] E tNil σ H Q := by
  refine r_make0 fun x dx nx ndx ne => ⟨x, dx, rfl, upd_same, fun l d H' nl nd hK keep => ⟨rfl, ?_⟩⟩
  have old : ∀ b o, H b = some o → (upd (upd H dx (.own x)) x (.ins C dx [])) b = some o := fun b o e => by
    rw [upd_ne (ne_of_none e nx), upd_ne (ne_of_none e ndx)]
    exact e
  have fr : ∀ b, (upd (upd H dx (.own x)) x (.ins C dx [])) b = none → H b = none := fun b nb => by
    cases e : H b with
    | none => rfl
    | some o => rw [old b o e] at nb; cases nb
  exact h x l d H' nx (fr l nl) (fr d nd) hK fun b o e => keep b o (old b o e) (ne_of_none e nx)
theorem r_gUnl2S {p l : Addr} {a b : V} {xs : List V} {i : Nat} {jx : Nat} {iz : Int} {to ti : TE} {R : L2.St → Hp → Prop} (h : H p = some (.lst [a, b])) (ho : ∀ QQ : VK, QQ (.ref l) H → to (σ.set i (some a)) H QQ) (hi : ∀ QQ : VK, QQ (.int iz) H → ti (σ.set i (some a)) H QQ)
    (hl : H l = some (.lst xs)) (hj : ixN xs.length iz = some jx) (q : R (σ.set i (some a)) (upd H l (.lst (xs.set jx b)))) : gUnl K 2 (gCons (gName i) (gCons (gSub to ti rSetL) gNil)) (.ref p) σ H R :=
  ⟨p, [a, b], rfl, SqL.of h, rfl, a, [b], rfl, b, [], rfl, ho _ (hi _ ⟨l, xs, iz, jx, rfl, rfl, hl, hj, rfl, q⟩)⟩
end
/-- two kept products by turns, and the law's own lists -/
structure Two (C : Addr) (H : Hp) (d c kl nl : Addr) (n : Nat) (x l t q : Bool → Addr) (ns ms : Bool → List Nat) : Prop where
  D : DeckAt H d c n
  hk : H kl = some (.lst [.ref (x false), .ref (x true)])
  hn : H nl = some (.lst [.ref (q false), .ref (q true)])
  K : ∀ b, KAt C H (x b) (l b) (t b) (ns b)
  Qm : ∀ b, H (q b) = some (.lst (nn (ms b)))
  pm : ∀ b, (ms b).Perm (ns b)
  len : ∀ b, (ns b).length ≤ 60
  ll : l false ≠ l true
  tt : t false ≠ t true
  ld : ∀ b, l b ≠ d
  lc : ∀ b, l b ≠ c
  lk : ∀ b, l b ≠ kl
  ln : ∀ b, l b ≠ nl
  lq : ∀ b b', l b ≠ q b'
  dk : d ≠ kl
  dn : d ≠ nl
  dq : ∀ b, q b ≠ d
  nc : nl ≠ c
  nk : nl ≠ kl
  nq : ∀ b, q b ≠ nl
section
variable {C : Addr} {H H' : Hp} {d c kl nl : Addr} {n n' : Nat} {x l t q : Bool → Addr} {ns ms : Bool → List Nat}
theorem Two.tl (S : Two C H d c kl nl n x l t q ns ms) (b : Bool) {e : Addr} {ys : List V} (he : H e = some (.lst ys)) : t b ≠ e := (S.K b).tl he
theorem Two.xl (S : Two C H d c kl nl n x l t q ns ms) (b : Bool) {e : Addr} {ys : List V} (he : H e = some (.lst ys)) : x b ≠ e := (S.K b).xl he
theorem Two.same (S : Two C H d c kl nl n x l t q ns ms) (s : Same H H') : Two C H' d c kl nl n x l t q ns ms :=
  { S with D := S.D.same s, hk := s _ _ S.hk, hn := s _ _ S.hn, K := fun b => (S.K b).same s, Qm := fun b => s _ _ (S.Qm b) }
theorem Two.mono (S : Two C H d c kl nl n x l t q ns ms) (h : n ≤ n') : Two C H d c kl nl n' x l t q ns ms := { S with D := S.D.mono h }
theorem Two.draw (S : Two C H d c kl nl n x l t q ns ms) (k : Keep d H H') (D : DeckAt H' d c n') : Two C H' d c kl nl n' x l t q ns ms := by
  obtain ⟨yd, hyd⟩ := S.D.lst
  exact { S with D := D, hk := k _ _ S.dk.symm S.hk, hn := k _ _ S.dn.symm S.hn, K := fun b => (S.K b).keep k (S.xl b hyd) (S.ld b) (S.tl b hyd), Qm := fun b => k _ _ (S.dq b) (S.Qm b) }
/-- behind a deed on the b-th, its new list stored -/
theorem Two.deed (S : Two C H d c kl nl n x l t q ns ms) (b : Bool) {r : Addr} {ns' ms' : List Nat} (hK : KAt C H' (x b) (l b) (t b) ns') (pm : ms'.Perm ns') (len : ns'.length ≤ 60) (nr : H r = none) (hr : H' r = some (.lst (nn ms'))) (D : DeckAt H' d c n') (k : KeepD d (l b) (t b) H H') :
    Two C (upd H' nl (.lst [.ref (if b = false then r else q false), .ref (if b = true then r else q true)])) d c kl nl n' x l t (fun b' => if b' = b then r else q b') (fun b' => if b' = b then ns' else ns b') (fun b' => if b' = b then ms' else ms b') := by
  have nrn : r ≠ nl := (ne_of_none S.hn nr).symm
  have nd : H' nl = some (.lst [.ref (q false), .ref (q true)]) := k _ _ S.dn.symm (S.ln b).symm (S.tl b S.hn).symm S.hn
  have u : ∀ (z : Addr) (o : HO), z ≠ nl → H' z = some o → (upd H' nl (.lst [.ref (if b = false then r else q false), .ref (if b = true then r else q true)])) z = some o := fun z o ne e => by rw [upd_ne ne]; exact e
  obtain ⟨yd, hyd⟩ := S.D.lst
  obtain ⟨yc, hyc⟩ := S.D.lstc
  have other : ∀ b', b' ≠ b → l b' ≠ l b ∧ t b' ≠ t b := fun b' h => by
    cases b <;> cases b'
    · exact absurd rfl h
    · exact ⟨S.ll.symm, S.tt.symm⟩
    · exact ⟨S.ll, S.tt⟩
    · exact absurd rfl h
  have KA : ∀ b', KAt C H' (x b') (l b') (t b') (if b' = b then ns' else ns b') := fun b' => by
    by_cases z : b' = b
    · subst z
      rw [if_pos rfl]
      exact hK
    · rw [if_neg z]
      have KK := S.K b'
      obtain ⟨dx, h1⟩ := KK.ob
      have hx1 : x b' ≠ t b := by
        obtain ⟨ks, ⟨_, kvs, h2, _⟩, _⟩ := (S.K b).ti
        exact ne_of h1 h2 (by intro z; cases z)
      have hl1 : l b' ≠ t b := (S.tl b KK.li).symm
      refine ⟨⟨dx, k _ _ (S.xl b' hyd) (S.xl b' (S.K b).li) hx1 h1⟩, k _ _ (S.ld b') (other b' z).1 hl1 KK.li, KK.ti.same fun o e => k _ _ (S.tl b' hyd) (S.tl b' (S.K b).li) (other b' z).2 e, KK.sm⟩
  refine ⟨D.upd S.dn.symm S.nc, u _ _ S.nk.symm (k _ _ S.dk.symm (S.lk b).symm (S.tl b S.hk).symm S.hk), ?_, fun b' => ?_, fun b' => ?_, fun b' => ?_, fun b' => ?_, S.ll, S.tt, S.ld, S.lc, S.lk, S.ln, fun b1 b' => ?_, S.dk, S.dn, fun b' => ?_, S.nc, S.nk, fun b' => ?_⟩
  · rw [upd_same]
    cases b <;> rfl
  · have hK' := KA b'
    obtain ⟨dx, h1⟩ := hK'.ob
    exact ⟨⟨dx, u _ _ (S.xl b' S.hn) h1⟩, u _ _ (S.ln b') hK'.li, hK'.ti.same fun o e => u _ _ (S.tl b' S.hn) e, hK'.sm⟩
  · by_cases z : b' = b
    · show (upd H' nl _) (if b' = b then r else q b') = some (.lst (nn (if b' = b then ms' else ms b')))
      rw [if_pos z, if_pos z]
      exact u _ _ nrn hr
    · show (upd H' nl _) (if b' = b then r else q b') = some (.lst (nn (if b' = b then ms' else ms b')))
      rw [if_neg z, if_neg z]
      exact u _ _ (S.nq b') (k _ _ (S.dq b') (S.lq b b').symm (S.tl b (S.Qm b')).symm (S.Qm b'))
  · show (if b' = b then ms' else ms b').Perm (if b' = b then ns' else ns b')
    by_cases z : b' = b
    · rw [if_pos z, if_pos z]; exact pm
    · rw [if_neg z, if_neg z]; exact S.pm b'
  · show (if b' = b then ns' else ns b').length ≤ 60
    by_cases z : b' = b
    · rw [if_pos z]; exact len
    · rw [if_neg z]; exact S.len b'
  · show l b1 ≠ if b' = b then r else q b'
    by_cases z : b' = b
    · rw [if_pos z]; exact ne_of_none (S.K b1).li nr
    · rw [if_neg z]; exact S.lq b1 b'
  · show (if b' = b then r else q b') ≠ d
    by_cases z : b' = b
    · rw [if_pos z]; exact (ne_of_none hyd nr).symm
    · rw [if_neg z]; exact S.dq b'
  · show (if b' = b then r else q b') ≠ nl
    by_cases z : b' = b
    · rw [if_pos z]; exact nrn
    · rw [if_neg z]; exact S.nq b'
theorem Two.fl (S : Two C H d c kl nl n x l t q ns ms) (b : Bool) {m : Str} (h1 : ¬ m = fT) (h2 : ¬ m = fN) : ∃ dx, H (x b) = some (.ins C dx (kFlds (l b) (t b))) ∧ (kFlds (l b) (t b)).lookup m = none := by
  obtain ⟨dx, h⟩ := (S.K b).ob
  exact ⟨dx, h, kFlds_no _ _ h1 h2⟩
theorem at_two {a b : V} (z : Bool) : atI [a, b] ((if z = true then 1 else 0 : Int)) = some (if z = true then b else a) := by cases z <;> rfl
end
theorem KAt.updl {C : Addr} {H : Hp} {x l d e : Addr} {ns : List Nat} {ys : List V} {o : HO} (h : KAt C H x l d ns) (he : H e = some (.lst ys)) (nl : l ≠ e) : KAt C (L2.upd H e o) x l d ns := by
  have n1 := h.xl he
  have n2 := h.tl he
  obtain ⟨dx, h1⟩ := h.ob
  exact ⟨⟨dx, by rw [upd_ne n1]; exact h1⟩, by rw [upd_ne nl]; exact h.li, h.ti.same fun o e => by rw [upd_ne n2]; exact e, h.sm⟩
/-- the first i kept products that a comprehension makes -/
def NewKs (C : Addr) (H1 : Hp) (kl : Addr) (i : Nat) (G : Hp) : Prop := ∃ xs ls ts : Nat → Addr, G kl = some (.lst ((List.range i).map fun j => V.ref (xs j))) ∧ (∀ j, j < i → KAt C G (xs j) (ls j) (ts j) [] ∧ H1 (ls j) = none ∧ ls j ≠ kl) ∧ (∀ j k, j < k → k < i → ls j ≠ ls k ∧ ts j ≠ ts k) ∧ Same H1 G
theorem NewKs.new {C : Addr} {H1 : Hp} {kl : Addr} (h : H1 kl = none) : NewKs C H1 kl 0 (upd H1 kl (.lst [])) := ⟨fun _ => kl, fun _ => kl, fun _ => kl, upd_same, fun j hj => absurd hj (Nat.not_lt_zero j), fun j k _ hk => absurd hk (Nat.not_lt_zero k), same_new h⟩
theorem NewKs.push {C : Addr} {H1 G H' : Hp} {kl x l t : Addr} {i : Nat} (S : NewKs C H1 kl i G) (hi : i ≤ 100) (nkl : H1 kl = none) (nl : G l = none) (nt : G t = none) (hK : KAt C H' x l t []) (s : Same G H') :
    ∃ acc, H' kl = some (.lst acc) ∧ acc.length < sizeLine ∧ NewKs C H1 kl (i + 1) (upd H' kl (.lst (acc ++ [.ref x]))) := by
  obtain ⟨xs, ls, ts, h1, h2, h3, h4⟩ := S
  have hk' := s _ _ h1
  have nlk : l ≠ kl := (ne_of_none h1 nl).symm
  have frl : H1 l = none := h4.free nl
  refine ⟨_, hk', few_line (by rw [List.length_map, List.length_range]; omega), fun j => if j = i then x else xs j, fun j => if j = i then l else ls j, fun j => if j = i then t else ts j, ?_, fun j hj => ?_, fun j k jk hk => ?_, same_updNew (h4.trans s) nkl⟩
  · rw [upd_same, List.range_succ, List.map_append]
    have : (List.range i).map (fun j => V.ref (xs j)) = (List.range i).map fun j => V.ref (if j = i then x else xs j) := List.map_congr_left fun j hj => by
      rw [if_neg (by have := List.mem_range.mp hj; omega)]
    rw [this]
    simp
  · by_cases z : j = i
    · subst z
      dsimp only
      rw [if_pos rfl, if_pos rfl, if_pos rfl]
      exact ⟨hK.updl hk' nlk, frl, nlk⟩
    · dsimp only
      rw [if_neg z, if_neg z, if_neg z]
      obtain ⟨a, b, c⟩ := h2 j (by omega)
      exact ⟨(a.same s).updl hk' c, b, c⟩
  · dsimp only
    rw [if_neg (show ¬ j = i by omega), if_neg (show ¬ j = i by omega)]
    by_cases z : k = i
    · rw [if_pos z, if_pos z]
      obtain ⟨a, _, _⟩ := h2 j (by omega)
      refine ⟨ne_of_none a.li nl, ?_⟩
      obtain ⟨ks, ⟨_, kvs, e2, _⟩, _⟩ := a.ti
      exact ne_of_none e2 nt
    · rw [if_neg z, if_neg z]
      exact h3 j k jk (by omega)
/-- two new ones, and new lists for the law -/
theorem NewKs.two {C : Addr} {H1 G G' : Hp} {d c kl nl q0 q1 : Addr} {n : Nat} (S : NewKs C H1 kl 2 G) (D : DeckAt H1 d c n) (nkl : H1 kl = none) (s : Same G G') (h0 : G q0 = none) (h1 : G q1 = none) (hn : G nl = none) (e0 : G' q0 = some (.lst [])) (e1 : G' q1 = some (.lst [])) (en : G' nl = some (.lst [.ref q0, .ref q1]))
    (n0 : q0 ≠ nl) (n1 : q1 ≠ nl) : ∃ x l t : Bool → Addr, Two C G' d c kl nl n x l t (fun b => if b = true then q1 else q0) (fun _ => []) (fun _ => []) := by
  obtain ⟨xs, ls, ts, g1, g2, g3, g4⟩ := S
  obtain ⟨yd, hyd⟩ := D.lst
  obtain ⟨yc, hyc⟩ := D.lstc
  have gd := g4 _ _ hyd
  have gc := g4 _ _ hyc
  have two : ∀ b : Bool, (if b = true then 1 else 0 : Nat) < 2 := fun b => by cases b <;> decide
  have K0 : ∀ b : Bool, _ := fun b => g2 (if b = true then 1 else 0) (two b)
  refine ⟨fun b => xs (if b = true then 1 else 0), fun b => ls (if b = true then 1 else 0), fun b => ts (if b = true then 1 else 0), (D.same g4).same s, s _ _ g1, en, fun b => (K0 b).1.same s, fun b => ?_, fun b => List.Perm.refl _, fun b => Nat.zero_le _, (g3 0 1 (by decide) (by decide)).1, (g3 0 1 (by decide) (by decide)).2, fun b => (ne_of_none hyd (K0 b).2.1).symm, fun b => (ne_of_none hyc (K0 b).2.1).symm, fun b => (K0 b).2.2, fun b => ne_of_none (K0 b).1.li hn, fun b b' => ?_, ne_of_none hyd nkl, ne_of_none gd hn, fun b => ?_, (ne_of_none gc hn).symm, (ne_of_none g1 hn).symm, fun b => ?_⟩
  · cases b
    · exact e0
    · exact e1
  · cases b'
    · exact ne_of_none (K0 b).1.li h0
    · exact ne_of_none (K0 b).1.li h1
  · cases b
    · exact (ne_of_none gd h0).symm
    · exact (ne_of_none gd h1).symm
  · cases b
    · exact n0
    · exact n1
theorem at_twoR (f : Bool → Addr) (b : Bool) : atI [V.ref (f false), V.ref (f true)] ((if b = true then 1 else 0 : Int)) = some (.ref (f b)) := by cases b <;> rfl
theorem at_twoO (f : Bool → Addr) (b : Bool) : atI [V.ref (f false), V.ref (f true)] (1 - (if b = true then 1 else 0 : Int)) = some (.ref (f (!b))) := by cases b <;> rfl
theorem at_twoN (f : Bool → Addr) {j : Nat} (h : j < 2) : atI [V.ref (f false), V.ref (f true)] ((0 : Int) + (j : Int)) = some (.ref (f (decide (j = 1)))) := by
  have : j = 0 ∨ j = 1 := by omega
  rcases this with rfl | rfl <;> rfl
end Pw

namespace Pw
open PySem PySem.Spec PyProof.Rows L2 SX TL
theorem r_listOfL {K : PySem.W.Frag} {H : Hp} {Q : VK} {p : Addr} {ys : List V} (h : SqL K H p ys) (q : NewC Q ys H) : rListOf K [.ref p] H Q := ⟨p, ys, rfl, .inl h, q⟩
theorem r_popAt {H : Hp} {Q : VK} {l : Addr} {ms : List Nat} {i : Int} {z : Nat} (h : H l = some (.lst (nn ms))) (h0 : 0 ≤ i) (h1 : i < 2 ^ 60) (hz : ms[i.toNat]? = some z) (q : Q (.int (z : Int)) (upd H l (.lst (nn (ms.eraseIdx i.toNat))))) : rPopAt (.ref l) [.int i] H Q := by
  have lt : i.toNat < ms.length := (List.getElem?_eq_some_iff.mp hz).1
  refine ⟨l, nn ms, i, i.toNat, .int (z : Int), rfl, rfl, h, by omega, by omega, ?_, ?_, by rw [nn, eraseIdx_mp, eraseIdx_mp]; exact q⟩
  · rw [nn_len]
    exact (ixN_seq (n := ms.length) (i := i) (j := i.toNat) (by unfold ixN; rw [if_pos h0, if_pos (by omega)])).1
  · rw [List.getElem?_map, List.getElem?_map, hz]
    rfl
/-! ### a state: the numbers told, the exponent, what lacks -/
/-- the list at r: the told numbers, the exponent, what lacks by e, of the numbers ns -/
def StAt (H : Hp) (r : Addr) (ns : List Nat) (e : Nat) : Prop := ∃ (p : Addr) (zs : List Nat) (g v : Nat), H r = some (.lst [.ref p, .int (g : Int), .int (v : Int)]) ∧ H p = some (.tup (nn zs)) ∧ zs.Perm ns ∧ zs.Pairwise (· ≤ ·) ∧ Pm.KExp (fun p => Pm.val p ns) g ∧ Pm.KLack (fun p => Pm.val p ns) e v ∧ v < 2 ^ 11000000
theorem StAt.same {H H' : Hp} {r : Addr} {ns : List Nat} {e : Nat} (h : StAt H r ns e) (s : ∀ b o, b = r ∨ (∃ xs, o = HO.tup xs) → H b = some o → H' b = some o) : StAt H' r ns e := by
  obtain ⟨p, zs, g, v, h1, h2, h3⟩ := h
  exact ⟨p, zs, g, v, s _ _ (.inl rfl) h1, s _ _ (.inr ⟨_, rfl⟩) h2, h3⟩
theorem st_shaped (zs : List Nat) (g v : Nat) : SeqAt.shaped (.list [.tuple ((zs.map fun k : Nat => (k : Int)).map PyData.int), .int (g : Int), .int (v : Int)]) = true := by
  unfold SeqAt.shaped
  simp only [PyData.canLay0, PyData.canLayAll0, PyData.depth, PyData.depthAll, lay_ints, depth_ints, Bool.true_and, decide_eq_true_eq, Bool.and_true]
  decide
theorem r_neSt {K : PySem.W.Frag} {H : Hp} {Q : VK} {r r' : Addr} {ns ms : List Nat} {e : Nat} (h : StAt H r ns e) (h' : StAt H r' ms e) (pm : ns.Perm ms) (q : Q (.bl false) H) : rNeD K (.ref r) (.ref r') H Q := by
  obtain ⟨p, zs, g, v, h1, h2, h3, h4, h5, h6, _⟩ := h
  obtain ⟨p', zs', g', v', k1, k2, k3, k4, k5, k6, _⟩ := h'
  have ez : zs = zs' := sorted_uniq (h3.trans (pm.trans k3.symm)) h4 k4
  have ev := KExp.perm pm
  rw [ev] at h5 h6
  have eg := h5.uniq k5
  have el := h6.uniq k6
  subst ez eg el
  refine ⟨.list [.tuple ((zs.map fun k : Nat => (k : Int)).map PyData.int), .int (g : Int), .int (v : Int)], _, .lst (SqL.of h1) (.cons (.tup (SqT.of h2) (dp_ints _)) (.cons (.int _) (.cons (.int _) .nil))), .lst (SqL.of k1) (.cons (.tup (SqT.of k2) (dp_ints _)) (.cons (.int _) (.cons (.int _) .nil))), st_shaped zs g v, st_shaped zs g v, ?_⟩
  rw [show PyData.eqv (.list [.tuple ((zs.map fun k : Nat => (k : Int)).map PyData.int), .int (g : Int), .int (v : Int)]) (.list [.tuple ((zs.map fun k : Nat => (k : Int)).map PyData.int), .int (g : Int), .int (v : Int)]) = true from by simp only [PyData.eqv, PyData.eqvAll, eqv_ints, decide_true, Bool.and_true, beq_self_eq_true]]
  exact q
theorem r_eqSt {K : PySem.W.Frag} {H : Hp} {Q : VK} {r r' : Addr} {ns ms : List Nat} {e : Nat} (h : StAt H r ns e) (h' : StAt H r' ms e) (pm : ns.Perm ms) (q : Q (.bl true) H) : rEqD K (.ref r) (.ref r') H Q := by
  obtain ⟨d1, d2, a, b, c, d, f⟩ := r_neSt (K := K) (Q := fun v _ => v = .bl false) h h' pm rfl
  refine ⟨d1, d2, a, b, c, d, ?_⟩
  have : PyData.eqv d1 d2 = true := by
    cases e : PyData.eqv d1 d2
    · rw [e] at f; cases f
    · rfl
  rw [this]
  exact q
def spState (C : Addr) : Sp := fun vs H Q _ => ∃ (x l t : Addr) (ns : List Nat) (e : Nat), vs = [.ref x, .int (e : Int)] ∧ KAt C H x l t ns ∧ ns.length ≤ 130 ∧ 1 ≤ e ∧ e ≤ 200 ∧ ∀ (r : Addr) (H' : Hp), H r = none → Same H H' → StAt H' r ns e → Q (.ref r) H'
def spMade (C : Addr) : Sp := fun vs H Q _ => ∃ (d c : Addr) (n : Nat) (pn : Addr) (ms : List Nat), vs = [.ref d, .ref pn] ∧ DeckAt H d c n ∧ n ≤ 2 ^ 46 ∧ H pn = some (.lst (nn ms)) ∧ Pm.Sm ms ∧ ms.length ≤ 64 ∧ pn ≠ d ∧
  ∀ (x l t : Addr) (ns : List Nat) (H' : Hp), H x = none → H l = none → H t = none → KAt C H' x l t ns → ns.Perm ms → Keep d H H' → DeckAt H' d c (n + 64) → Q (.ref x) H'
def spProd : Sp := fun vs H Q _ => ∃ (p : Addr) (ms : List Nat), vs = [.ref p] ∧ H p = some (.lst (nn ms)) ∧ Pm.Sm ms ∧ ms.length ≤ 64 ∧ Q (.int ((Pm.prd ms : Nat) : Int)) H
def spLackR (C : Addr) : Sp := fun vs H Q _ => ∃ (x l t p : Addr) (ns ms : List Nat) (e : Nat), vs = [.ref x, .ref p, .int (e : Int)] ∧ KAt C H x l t ns ∧ ns.length ≤ 64 ∧ H p = some (.lst (nn ms)) ∧ ms.Perm ns ∧ 1 ≤ e ∧ e ≤ 200 ∧ ∀ H', Same H H' → Q (.bl true) H'
end Pw

namespace Pw
open PySem PySem.Spec PyProof.Rows L2 SX TL
/-- a kept product, the law's own list of its numbers, and a list r that stays -/
structure One (C : Addr) (H : Hp) (d c x l t nl : Addr) (n : Nat) (ns ms : List Nat) : Prop where
  D : DeckAt H d c n
  K : KAt C H x l t ns
  hn : H nl = some (.lst (nn ms))
  ld : l ≠ d
  lc : l ≠ c
  ln : l ≠ nl
  nd : nl ≠ d
  nc : nl ≠ c
section
variable {C : Addr} {H H' : Hp} {d c x l t nl : Addr} {n n' : Nat} {ns ms ns' ms' : List Nat}
theorem One.same (S : One C H d c x l t nl n ns ms) (s : Same H H') : One C H' d c x l t nl n ns ms := { S with D := S.D.same s, K := S.K.same s, hn := s _ _ S.hn }
theorem One.mono (S : One C H d c x l t nl n ns ms) (h : n ≤ n') : One C H d c x l t nl n' ns ms := { S with D := S.D.mono h }
theorem One.draw (S : One C H d c x l t nl n ns ms) (k : Keep d H H') (D : DeckAt H' d c n') : One C H' d c x l t nl n' ns ms := by
  obtain ⟨yd, hyd⟩ := S.D.lst
  exact { S with D := D, K := S.K.keep k (S.K.xl hyd) S.ld (S.K.tl hyd), hn := k _ _ S.nd S.hn }
/-- behind a deed -/
theorem One.op (S : One C H d c x l t nl n ns ms) (k : KeepK l t H H') (hK : KAt C H' x l t ns') : One C H' d c x l t nl n ns' ms := by
  obtain ⟨yd, hyd⟩ := S.D.lst
  obtain ⟨yc, hyc⟩ := S.D.lstc
  exact { S with D := S.D.keepK k S.ld.symm (S.K.tl hyd).symm S.lc.symm (S.K.tl hyc).symm, K := hK, hn := k _ _ S.ln.symm (S.K.tl S.hn).symm S.hn }
/-- the law's own list changed -/
theorem One.put (S : One C H d c x l t nl n ns ms) : One C (upd H nl (.lst (nn ms'))) d c x l t nl n ns ms' :=
  { S with D := S.D.upd S.nd S.nc, K := S.K.updl S.hn S.ln, hn := upd_same }
theorem One.fl (S : One C H d c x l t nl n ns ms) {m : Str} (h1 : ¬ m = fT) (h2 : ¬ m = fN) : ∃ dx, H x = some (.ins C dx (kFlds l t)) ∧ (kFlds l t).lookup m = none := by
  obtain ⟨dx, h⟩ := S.K.ob
  exact ⟨dx, h, kFlds_no _ _ h1 h2⟩
/-- a told state stays through draws and deeds -/
theorem One.st {r : Addr} {ks : List Nat} {e : Nat} (S : One C H d c x l t nl n ns ms) (h : StAt H r ks e) (hr : r ≠ d) (k : Keep d H H') : StAt H' r ks e := by
  obtain ⟨yd, hyd⟩ := S.D.lst
  refine h.same fun b o hb he => k _ _ ?_ he
  rcases hb with rfl | ⟨xs, rfl⟩
  · exact hr
  · exact ne_of he hyd (by intro z; cases z)
theorem One.stK {r : Addr} {ks : List Nat} {e : Nat} (S : One C H d c x l t nl n ns ms) (h : StAt H r ks e) (hr : r ≠ l) (k : KeepK l t H H') : StAt H' r ks e := by
  obtain ⟨p, zs, g, v, h1, _⟩ := id h
  refine h.same fun b o hb he => ?_
  rcases hb with rfl | ⟨xs, rfl⟩
  · exact k _ _ hr (S.K.tl h1).symm he
  · refine k _ _ (ne_of he S.K.li (by intro z; cases z)) ?_ he
    obtain ⟨ks, ⟨_, kvs, h2, _⟩, _⟩ := S.K.ti
    exact ne_of he h2 (by intro z; cases z)
theorem StAt.sm {r : Addr} {ks : List Nat} {e : Nat} (h : StAt H r ks e) (s : Same H H') : StAt H' r ks e := h.same fun b o _ he => s _ _ he
end
theorem at_last (ms : List Nat) (z : Nat) : atI (nn (ms ++ [z])) (-1) = some (.int (z : Int)) := by
  unfold atI ixN
  rw [nn_len, List.length_append, List.length_singleton, if_neg (by decide), if_pos (by omega)]
  show (nn (ms ++ [z]))[_]? = _
  have e : ((-1 : Int) + ((ms.length + 1 : Nat) : Int)).toNat = ms.length := by omega
  rw [e, nn, List.getElem?_map, List.getElem?_map, List.getElem?_append_right (Nat.le_refl _), Nat.sub_self]
  rfl
end Pw

/-! ### a desk: f-texts, parted lines, words joined by blanks -/
namespace Pw
open PySem PySem.Spec PyProof.Rows L2 SX TL
theorem lit_blank : Str.ofString " " = S [32] := by decide +kernel
theorem lit_numbers : Str.ofString "numbers" = S [110, 117, 109, 98, 101, 114, 115] := by decide +kernel
theorem lit_product : Str.ofString "product" = S [112, 114, 111, 100, 117, 99, 116] := by decide +kernel
theorem lit_lacks : Str.ofString "lacks" = S [108, 97, 99, 107, 115] := by decide +kernel
theorem lit_lacksB : Str.ofString "lacks " = S [108, 97, 99, 107, 115, 32] := by decide +kernel
theorem lit_come : Str.ofString "come" = S [99, 111, 109, 101] := by decide +kernel
theorem lit_comeB : Str.ofString "come " = S [99, 111, 109, 101, 32] := by decide +kernel
theorem lit_go : Str.ofString "go" = S [103, 111] := by decide +kernel
theorem lit_goB : Str.ofString "go " = S [103, 111, 32] := by decide +kernel
theorem lit_nth : Str.ofString "nth" = S [110, 116, 104] := by decide +kernel
theorem lit_nthB : Str.ofString "nth " = S [110, 116, 104, 32] := by decide +kernel
theorem lit_none : Str.ofString "none" = S [110, 111, 110, 101] := by decide +kernel
theorem lit_power : Str.ofString "power " = S [112, 111, 119, 101, 114, 32] := by decide +kernel
theorem lit_x : Str.ofString "x" = S [120] := by decide +kernel
/-! f-texts -/
theorem noDig {X : Cx} {pins : List (Addr × Obj)} {σ : L2.St} {H : Hp} {s : Shared} (I : Inv X pins σ H s) (d : PySem.W.nsIn X.K cStatics "sys.int_max_str_digits" = some none) : s.heap.NoDigits := by
  obtain ⟨mc, hns, _⟩ := I.nolimit
  exact ⟨mc, hns, PySem.W.ns_none_of I.kIn hns d⟩
def tFmtB (te : TE) : TE := fun σ H Q => te σ H fun x H1 => ∃ n : Nat, x = .int (n : Int) ∧ n < 10 ^ 4300 ∧ Q (.str (S (numL n))) H1
theorem pe_fmtB {X : Cx} {e : Expr} {te : TE} {pos : Pos} (d : PySem.W.nsIn X.K cStatics "sys.int_max_str_digits" = some none) (he : PE X e te) (hc : X.calm = true := by rfl) : PE X (.FormattedValue e (-1) none pos) (tFmtB te) := by
  refine ⟨fun pins s σ H Q I h => ?_⟩
  refine wpAny_FormattedValue_plain (thn (he.run pins s σ H _ I h) fun v s1 hv => ?_)
  obtain ⟨x, H1, I1, r1, n, rfl, hn, q⟩ := hv
  obtain ⟨t, rfl⟩ := r1
  refine PyProof.Rows.formatField_int (I1.ok.hd hc) (noDig I1 d) (fun _ => ⟨.str (S (numL n)), H1, I1.tok _, ⟨s1.toks + 1, ?_⟩, q⟩) fun hge => absurd hn (Nat.not_lt.mpr (by rw [Int.natAbs_natCast] at hge; exact hge))
  show Value.str (PySem.Str.ofString (toString (n : Int))) _ = _
  rw [num_S]
def tJoin (ts : List TE) : TE := fun σ H Q => tJs ts Str.empty σ H fun out H1 => Q (.str out) H1
theorem pe_joinedN {X : Cx} {v1 v2 : Expr} {rest : List Expr} {ts : List TE} {pos : Pos} (h : PJ X (v1 :: v2 :: rest) ts) : PE X (.JoinedStr (v1 :: v2 :: rest) pos) (tJoin ts) := pe_joined h
def FmtC (Q : VK) (x : V) (H : Hp) : Prop := (∃ y : Str, x = .str y ∧ y.length ≤ sizeLine ∧ Q (.str y) H) ∨ ∃ i : Int, x = .int i ∧ i.natAbs.log2 < 1920 ∧ Q (.str (toString i)) H
def FmtBC (Q : VK) (x : V) (H : Hp) : Prop := ∃ n : Nat, x = .int (n : Int) ∧ n < 10 ^ 4300 ∧ Q (.str (S (numL n))) H
def JsC (ts : List TE) (acc : Str) (σ : L2.St) (Q : Str → Hp → Prop) (x : V) (H : Hp) : Prop := ∃ y : Str, x = .str y ∧ (acc ++ y).length ≤ sizeLine ∧ tJs ts (acc ++ y) σ H Q
section
variable {te t : TE} {ts : List TE} {σ : L2.St} {H : Hp} {Q : VK} {QS : Str → Hp → Prop} {acc : Str} {l m : List Nat} {n : Nat}
theorem r_fmt (h : te σ H fun x H1 => FmtC Q x H1) : tFmt te σ H Q := h
theorem r_fmtB (h : te σ H fun x H1 => FmtBC Q x H1) : tFmtB te σ H Q := h
theorem fmtS (h : l.length ≤ 100000) (q : Q (.str (S l)) H) : FmtC Q (.str (S l)) H := .inl ⟨S l, rfl, by rw [S_len]; exact Nat.le_trans h (by decide), q⟩
theorem fmtI (h : n < 2 ^ 1900) (q : Q (.str (S (numL n))) H) : FmtC Q (.int (n : Int)) H :=
  .inr ⟨(n : Int), rfl, by rw [Int.natAbs_natCast]; exact Nat.lt_of_lt_of_le (PySem.Flt.log2_lt_of (by decide) h) (by decide), by
    show Q (.str (PySem.Str.ofString (toString (n : Int)))) H
    rw [num_S]
    exact q⟩
theorem fmtBI (h : n < 10 ^ 4300) (q : Q (.str (S (numL n))) H) : FmtBC Q (.int (n : Int)) H := ⟨n, rfl, h, q⟩
theorem r_joinT (h : tJs ts (S []) σ H fun out H1 => Q (.str out) H1) : tJoin ts σ H Q := h
theorem r_js (h : t σ H fun x H1 => JsC ts acc σ QS x H1) : tJs (t :: ts) acc σ H QS := h
theorem r_jsN (q : QS acc H) : tJs [] acc σ H QS := q
theorem jsC (h : l.length + m.length ≤ 100000) (q : tJs ts (S (l ++ m)) σ H QS) : JsC ts (S l) σ QS (.str (S m)) H :=
  ⟨S m, rfl, by rw [S_cat, S_len, List.length_append]; exact Nat.le_trans h (by decide), by rw [S_cat]; exact q⟩
end
/-! lines parted at their first blank -/
def rPton : V → List V → Hp → VK → Prop := fun x xs H Q => ∃ a b, x = .str a ∧ xs = [.str b] ∧ (b.length == 0) = false ∧ a.length ≤ sizeLine ∧
  ∀ p, H p = none → Q (.ref p) (upd H p (.tup [.str (Txt.partition a b).1, .str (Txt.partition a b).2.1, .str (Txt.partition a b).2.2]))
theorem pe_partN {X : Cx} {o e : Expr} {to te : TE} {apos pos : Pos} (ho : PE X o to) (he : PE X e te) (hs : starEach [e] X.env = [(false, eval e X.env)] := by rfl) (hbase : attributeBase o "partition" X.env (eval o X.env) = eval o X.env := by rfl) (hline : (apos.endLine == pos.line) = true := by rfl) :
    PE X (.Call (.Attribute o "partition" apos) [e] [] pos) (tM1 rPton to te) := pe_partition ho he hs hbase hline
section
variable {H : Hp} {Q : VK} {a b : List Nat}
theorem r_pton (h : 32 ∉ a) (hl : a.length + b.length ≤ 90000) (q : ∀ p H', H p = none → Same H H' → H' p = some (.tup [.str (S a), .str (S [32]), .str (S b)]) → Q (.ref p) H') : rPton (.str (S (a ++ 32 :: b))) [.str (S [32])] H Q := by
  refine ⟨S (a ++ 32 :: b), S [32], rfl, rfl, by rw [S_len]; rfl, by rw [S_len, List.length_append, List.length_cons]; exact Nat.le_trans (show _ ≤ 100000 by omega) (by decide), fun p hp => ?_⟩
  have e : Txt.partition (S (a ++ 32 :: b)) (S [32]) = (S a, S [32], S b) := by
    have e1 : S (a ++ 32 :: b) = S a ++ S [32] ++ S b := by
      rw [S_cat, S_cat, List.append_assoc]
      rfl
    rw [e1]
    exact partition_app (y := S [32]) (s := 32) (S := []) rfl h
  rw [e]
  exact q p _ hp (same_new hp) upd_same
theorem r_ptonN (h : 32 ∉ a) (hl : a.length ≤ 100000) (q : ∀ p H', H p = none → Same H H' → H' p = some (.tup [.str (S a), .str (S []), .str (S [])]) → Q (.ref p) H') : rPton (.str (S a)) [.str (S [32])] H Q := by
  refine ⟨S a, S [32], rfl, rfl, by rw [S_len]; rfl, by rw [S_len]; exact Nat.le_trans hl (by decide), fun p hp => ?_⟩
  have e : Txt.partition (S a) (S [32]) = (S a, S [], S []) := TL.partition_none (y := S [32]) (s := 32) (S := []) rfl h
  rw [e]
  exact q p _ hp (same_new hp) upd_same
end
/-! words joined by blanks -/
theorem joinL_len (ls : List (List Nat)) : (TL.joinL [32] ls).length ≤ ls.flatten.length + ls.length := by
  induction ls with
  | nil => exact Nat.le_refl _
  | cons x r ih =>
    cases r with
    | nil => simp [TL.joinL]
    | cons y r =>
      rw [TL.joinL, List.flatten_cons, List.length_append, List.length_append, List.length_append, List.length_cons]
      simp only [List.length_cons, List.length_nil] at ih ⊢
      omega
theorem r_joinB {K : PySem.W.Frag} {H : Hp} {Q : VK} {p : Addr} {ls : List (List Nat)} (h : SqL K H p (ls.map fun l => V.str (S l))) (hl : ls.flatten.length + ls.length ≤ 100000) (q : Q (.str (S (TL.joinL [32] ls))) H) : rJoin K (.str (S [32])) [.ref p] H Q := by
  refine ⟨S [32], p, ls.map S, rfl, rfl, .inl ?_, ?_, ?_⟩
  · rw [List.map_map]
    exact h
  · rw [lens, S_len, List.length_map, List.length_singleton, Nat.mul_one, ← List.length_flatten]
    exact Nat.le_trans hl (by decide)
  · have e : Txt.join (S [32]) (ls.map S) = S (TL.joinL [32] ls) := by
      rw [TL.join_eq]
      refine TL.ext_tl ?_
      rw [TL.tl_join]
      have e2 : (ls.map S).map TL.tl = ls := map_S_tl ls
      rw [e2]
    rw [e]
    exact q
/-! all, dict of pairs -/
theorem r_all {K : PySem.W.Frag} {H : Hp} {Q : VK} {p : Addr} {bs : List Bool} (h : SqL K H p (bs.map V.bl)) (q : Q (.bl (bs.all id)) H) : rAll K [.ref p] H Q := ⟨p, bs, rfl, h, q⟩
def rDictP (K : PySem.W.Frag) : List V → Hp → VK → Prop := fun xs H Q => ∃ (a : Addr) (ps : List Addr) (kvs : List (Key × V)), xs = [.ref a] ∧ SqL K H a (ps.map V.ref) ∧ Paired (fun p kv => SqT K H p [kV kv.1, kv.2]) ps kvs ∧
    ∀ p, H p = none → Q (.ref p) (upd H p (.dK (mergeK [] kvs)))
theorem cr_dictP {X : Cx} (hc : X.calm = true) : CallR X (.type "dict") (rDictP X.K) := call_dictP hc
/-- a row of a table -/
abbrev ftRow (f : Nat → Nat) (k : Nat) : Key × V := ((Sum.inl (k : Int) : Key), V.int ((f k : Nat) : Int))
theorem mergeK_ft (f : Nat → Nat) : ∀ (ks acc : List Nat), (acc ++ ks).Nodup → mergeK (acc.map (ftRow f)) (ks.map (ftRow f)) = (acc ++ ks).map (ftRow f)
  | [], acc, _ => by rw [List.append_nil]; rfl
  | k :: ks, acc, h => by
    have e1 : putK (acc.map (ftRow f)) (.inl (k : Int)) (V.int ((f k : Nat) : Int)) = (acc ++ [k]).map (ftRow f) := by
      have nk : k ∉ acc := fun m => (List.nodup_append.mp h).2.2 k m k (List.mem_cons_self ..) rfl
      rw [putK_new _ (by rw [ft_val, if_neg nk]), List.map_append]
      rfl
    show mergeK (putK (acc.map (ftRow f)) (.inl (k : Int)) (V.int ((f k : Nat) : Int))) (ks.map (ftRow f)) = _
    have h2 : (acc ++ [k] ++ ks).Nodup := by rw [List.append_assoc]; exact h
    rw [e1, mergeK_ft f ks (acc ++ [k]) h2, List.append_assoc]
    rfl
theorem paired_map {α β γ : Type} {R : α → β → Prop} {R' : α → γ → Prop} {g : β → γ} (f : ∀ a b, R a b → R' a (g b)) : ∀ {xs : List α} {ys : List β}, Paired R xs ys → Paired R' xs (ys.map g)
  | _, _, .nil => .nil
  | _, _, .cons h t => .cons (f _ _ h) (paired_map f t)
/-- a copy of a table, from the list of its rows -/
theorem r_dictFT {K : PySem.W.Frag} {H : Hp} {Q : VK} {a : Addr} {ps : List Addr} {ks : List Nat} {f : Nat → Nat} (nd : ks.Nodup) (ha : SqL K H a (ps.map V.ref)) (hp : Paired (fun p k => H p = some (.tup [.int ((k : Nat) : Int), .int ((f k : Nat) : Int)])) ps ks)
    (q : ∀ (p : Addr) (H' : Hp), H p = none → Same H H' → FT H' p ks f → Q (.ref p) H') : rDictP K [.ref a] H Q := by
  refine ⟨a, ps, ks.map (ftRow f), rfl, ha, paired_map (R' := fun p kv => SqT K H p [kV kv.1, kv.2]) (g := ftRow f) (fun p k e => SqT.of (xs := [.int ((k : Nat) : Int), .int ((f k : Nat) : Int)]) e) hp, fun p np => q p _ np (same_new np) ⟨nd, _, upd_same, ?_⟩⟩
  have := mergeK_ft f ks [] (by rw [List.nil_append]; exact nd)
  rw [List.nil_append] at this
  exact this
end Pw

namespace Pw
open PySem PySem.Spec PyProof.Rows L2 SX TL
/-! ### comprehensions that keep all -/
def MapAt (H1 : Hp) (D : Addr) (ys : List V) (i : Nat) (G : Hp) : Prop := G D = some (.lst (ys.take i)) ∧ Same H1 G
section
variable {H1 G H4 : Hp} {D : Addr} {ys : List V} {i : Nat} {y : V}
theorem MapAt.new (h : H1 D = none) : MapAt H1 D ys 0 (upd H1 D (.lst [])) := ⟨by rw [upd_same]; rfl, same_new h⟩
theorem MapAt.push (h : MapAt H1 D ys i G) (s : Same G H4) (nD : H1 D = none) (hy : ys[i]? = some y) (hl : ys.length ≤ 1000000) : ∃ acc, H4 D = some (.lst acc) ∧ acc.length < sizeLine ∧ MapAt H1 D ys (i + 1) (upd H4 D (.lst (acc ++ [y]))) := by
  have hi := (List.getElem?_eq_some_iff.mp hy).1
  refine ⟨_, s _ _ h.1, Nat.lt_of_lt_of_le (show (ys.take i).length < 1000000 by rw [List.length_take]; omega) (by decide), ?_, same_updNew (h.2.trans s) nD⟩
  rw [upd_same, List.take_add_one, hy]
  rfl
theorem MapAt.done (h : MapAt H1 D ys ys.length G) : G D = some (.lst ys) ∧ Same H1 G := ⟨by have := h.1; rw [List.take_length] at this; exact this, h.2⟩
end
/-- over a text, sign by sign -/
theorem lc_str {l : List Nat} {g : TG} {tt : TT} {te : TE} {vs : List Nat} {σ : L2.St} {H1 : Hp} {D : Addr} {Qd : Hp → Prop} (Pv : Nat → Hp → Prop) (h0 : Pv 0 (upd H1 D (.lst [])))
    (hs : ∀ i c H, l[i]? = some c → Pv i H → g (.str (S [c])) (wipe σ vs) H fun σ2 H2 => wipe σ2 vs = wipe σ vs ∧ tt σ2 H2 fun b H3 =>
      if b = true then te σ2 H3 fun y H4 => ∃ acc, H4 D = some (.lst acc) ∧ acc.length < sizeLine ∧ Pv (i + 1) (upd H4 D (.lst (acc ++ [y]))) else Pv (i + 1) H3) (hd : ∀ H, Pv l.length H → Qd H) :
    ∃ W : Nat → Nat → Hp → Prop, (∃ m, W 0 m (upd H1 D (.lst []))) ∧ ∀ i m H, W i m H →
      ((Its (S l)).stop i H ∧ Qd H) ∨ ((Its (S l)).go i H ∧ ∃ Nx : Hp → Prop, (∀ H', Nx H' → ∃ m', m' < m ∧ W (i + 1) m' H') ∧ ∀ x H', (Its (S l)).yld i H x H' → g x (wipe σ vs) H' fun σ2 H2 => wipe σ2 vs = wipe σ vs ∧ tt σ2 H2 fun b H3 =>
        if b = true then te σ2 H3 fun y H4 => ∃ acc, H4 D = some (.lst acc) ∧ acc.length < sizeLine ∧ Nx (upd H4 D (.lst (acc ++ [y]))) else Nx H3) := by
  have es : (S l).cps.size = l.length := by simp [S]
  refine ⟨fun i m H => m = l.length - i ∧ i ≤ l.length ∧ Pv i H, ⟨l.length, by simp, Nat.zero_le _, h0⟩, ?_⟩
  rintro i m H ⟨rfl, hi, p⟩
  by_cases hlt : i < l.length
  · refine .inr ⟨by show i < _; rw [es]; exact hlt, Pv (i + 1), fun H' p' => ⟨l.length - (i + 1), by omega, rfl, hlt, p'⟩, fun x H' y => ?_⟩
    obtain ⟨e, c, hc, rfl⟩ := y
    subst e
    have hc' : l[i]? = some c := by
      have : (S l).cps[i]? = l[i]? := by simp [S]
      rw [← this]
      exact hc
    exact hs i c H' hc' p
  · have e : i = l.length := by omega
    subst e
    exact .inl ⟨by show _ ≤ _; rw [es]; exact Nat.le_refl _, hd H p⟩
theorem nn_atE {zs : List Nat} {i : Nat} {y : V} (h : (nn zs)[i]? = some y) : ∃ n : Nat, zs[i]? = some n ∧ y = .int (n : Int) := by
  cases e : zs[i]? with
  | none =>
    rw [show (nn zs)[i]? = none from by
      rw [List.getElem?_eq_none_iff, nn_len]
      exact List.getElem?_eq_none_iff.mp e] at h
    cases h
  | some n =>
    refine ⟨n, rfl, ?_⟩
    have : (nn zs)[i]? = some (.int (n : Int)) := by
      show (List.map V.int (zs.map fun k : Nat => (k : Int)))[i]? = _
      rw [List.getElem?_map, List.getElem?_map, e]
      rfl
    rw [this] at h
    exact (Option.some.inj h).symm
theorem flat_len {f : Nat → List Nat} {k : Nat} : ∀ {zs : List Nat}, (∀ n ∈ zs, (f n).length ≤ k) → (zs.map f).flatten.length ≤ k * zs.length
  | [], _ => by simp
  | a :: r, h => by
    have h1 := h a (List.mem_cons_self ..)
    have h2 := flat_len (f := f) (k := k) (zs := r) fun n hn => h n (List.mem_cons_of_mem _ hn)
    rw [List.map_cons, List.flatten_cons, List.length_append, List.length_cons, Nat.mul_add]
    omega
theorem KExp_small {ns : List Nat} {g : Nat} (h : Pm.KExp (fun p => Pm.val p ns) g) (hs : Pm.Sm ns) (hl : ns.length ≤ 60) : g ≤ 10000 := by
  rcases h with ⟨_, rfl⟩ | ⟨⟨p, hp, p1⟩, hg, _⟩
  · decide
  · have h1 := Nat.le_of_dvd p1 (hg p hp)
    have h2 : Pm.val p ns ≤ 20 * ns.length := Pm.val_bound hp hs
    have h1' : g ≤ Pm.val p ns := h1
    omega
/-! ### numbers in figures -/
def figB (l : List Nat) : Bool := !decide (l = []) && decide (l.length ≤ 18) && (decide (l.head? ≠ some 48) || decide (l = [48])) && l.all dgt
theorem numL_ne48 {n : Nat} : (numL n).head? ≠ some 48 ∨ numL n = [48] := by
  by_cases h : n = 0
  · right
    rw [h]
    rfl
  · left
    intro e
    cases e2 : numL n with
    | nil => exact numL_ne _ e2
    | cons c r =>
      rw [e2] at e
      exact numL_head n (by omega) c r e2 (Option.some.inj e)
theorem figB_num {n : Nat} (h : n < 10 ^ 18) : figB (numL n) = true := by
  unfold figB
  have h1 : decide (numL n = []) = false := decide_eq_false (numL_ne n)
  have h2 : decide ((numL n).length ≤ 18) = true := decide_eq_true (numL_len_le (k := 17) h)
  have h3 : (decide ((numL n).head? ≠ some 48) || decide (numL n = [48])) = true := by
    rcases numL_ne48 (n := n) with z | z
    · rw [decide_eq_true z]; rfl
    · rw [decide_eq_true z, Bool.or_true]
  have h4 : (numL n).all dgt = true := List.all_eq_true.mpr (numL_dgt n)
  rw [h1, h2, h3, h4]
  rfl
theorem digsA {l : List Nat} (h : NumText.AllDigits l) : l.all (fun c => decide (48 ≤ c) && decide (c ≤ 57)) = true := List.all_eq_true.mpr fun c hc => by
  obtain ⟨h1, h2⟩ := h c hc
  simp [h1, h2]
def spAreFigs : Sp := fun vs H Q _ => ∃ l : List Nat, vs = [.str (S l)] ∧ l.length ≤ 1000 ∧ ∀ H', Same H H' → Q (.bl (figB l)) H'
def spFigRead : Sp := fun vs H Q _ => ∃ (n : Nat) (lo hi : Int), vs = [.str (S (numL n)), .int lo, .int hi] ∧ n < 10 ^ 18 ∧ lo ≤ n ∧ (n : Int) ≤ hi ∧ ∀ H', Same H H' → Q (.int (n : Int)) H'
theorem digitsVal_num (n : Nat) : NumText.digitsVal (numL n) = n := numL_val n
/-! ### a desk -/
abbrev fP : Str := "_product"
def dFlds (xk : Addr) : List (Str × V) := putF fP (.ref xk) []
theorem dFlds_P (xk : Addr) : (dFlds xk).lookup fP = some (.ref xk) := by
  unfold dFlds
  rw [lookup_putF, if_pos rfl]
theorem dFlds_no (xk : Addr) {m : Str} (h : ¬ m = fP) : (dFlds xk).lookup m = none := by
  unfold dFlds
  rw [lookup_putF, if_neg h]
  rfl
structure DCls (K : PySem.W.Frag) (C : Addr) : Prop where
  cl : Cls K C
  nP : NoAttr K C fP
/-- the desk at x, its kept product at k, that one's list at l, its table at t, the numbers ns -/
structure DAt (CD CK : Addr) (H : Hp) (x k l t : Addr) (ns : List Nat) : Prop where
  ob : ∃ dx, H x = some (.ins CD dx (dFlds k))
  kp : KAt CK H k l t ns
section
variable {CD CK : Addr} {H H' : Hp} {x k l t e : Addr} {ns : List Nat}
theorem DAt.nl (h : DAt CD CK H x k l t ns) : x ≠ l := by
  obtain ⟨dx, h1⟩ := h.ob
  exact ne_of h1 h.kp.li (by intro z; cases z)
theorem DAt.nt (h : DAt CD CK H x k l t ns) : x ≠ t := by
  obtain ⟨dx, h1⟩ := h.ob
  obtain ⟨ks, ⟨_, kvs, h2, _⟩, _⟩ := h.kp.ti
  exact ne_of h1 h2 (by intro z; cases z)
theorem DAt.same (h : DAt CD CK H x k l t ns) (s : Same H H') : DAt CD CK H' x k l t ns := by
  obtain ⟨dx, h1⟩ := h.ob
  exact ⟨⟨dx, s _ _ h1⟩, h.kp.same s⟩
theorem DAt.xl (h : DAt CD CK H x k l t ns) {ys : List V} (he : H e = some (.lst ys)) : x ≠ e := by
  obtain ⟨dx, h1⟩ := h.ob
  exact ne_of h1 he (by intro z; cases z)
theorem DAt.keep (h : DAt CD CK H x k l t ns) {d : Addr} (s : Keep d H H') {ys : List V} (hd : H d = some (.lst ys)) (nl : l ≠ d) : DAt CD CK H' x k l t ns := by
  have hx := h.xl hd
  obtain ⟨dx, h1⟩ := h.ob
  exact ⟨⟨dx, s _ _ hx h1⟩, h.kp.keep s (h.kp.xl hd) nl (h.kp.tl hd)⟩
theorem DAt.updl (h : DAt CD CK H x k l t ns) {ys : List V} {o : HO} (he : H e = some (.lst ys)) (nl : l ≠ e) : DAt CD CK (L2.upd H e o) x k l t ns := by
  have hx := h.xl he
  obtain ⟨dx, h1⟩ := h.ob
  exact ⟨⟨dx, by rw [upd_ne hx]; exact h1⟩, h.kp.updl he nl⟩
end
def spDInit (CD CK : Addr) : Sp := fun vs H Q _ => ∃ (x dx : Addr), vs = [.ref x] ∧ H x = some (.ins CD dx []) ∧ ∀ (k l t : Addr) (H' : Hp), H l = none → H t = none → DAt CD CK H' x k l t [] → (∀ b o, H b = some o → b ≠ x → H' b = some o) → Q .non H'
/-- lines -/
abbrev wCome : List Nat := [99, 111, 109, 101, 32]
abbrev wGo : List Nat := [103, 111, 32]
abbrev wLacks : List Nat := [108, 97, 99, 107, 115, 32]
abbrev wNumbers : List Nat := [110, 117, 109, 98, 101, 114, 115]
abbrev wProduct : List Nat := [112, 114, 111, 100, 117, 99, 116]
abbrev wNone : List Nat := [110, 111, 110, 101]
abbrev wPower : List Nat := [112, 111, 119, 101, 114, 32]
/-- the row of the numbers, and of the greatest exponent -/
def numRow (zs : List Nat) : List V := if zs = [] then [] else [.str (S (TL.joinL [32] (zs.map numL)))]
def prodRow (g : Nat) : List V := [.str (S (if 1 < g then wPower ++ numL g else wNone))]
def spToldP (CD CK : Addr) : Sp := fun vs H Q _ => ∃ (x k l t : Addr) (ns : List Nat) (w : List Nat), vs = [.ref x, .str (S w)] ∧ DAt CD CK H x k l t ns ∧ ns.length ≤ 60 ∧
  ((w = wNumbers ∧ ∀ (zs : List Nat) (p : Addr) (H' : Hp), zs.Perm ns → zs.Pairwise (· ≤ ·) → H p = none → Same H H' → H' p = some (.lst (numRow zs)) → Q (.ref p) H') ∨
   (w = wProduct ∧ ∀ (g : Nat) (p : Addr) (H' : Hp), Pm.KExp (fun p => Pm.val p ns) g → H p = none → Same H H' → H' p = some (.lst (prodRow g)) → Q (.ref p) H'))
def spDCome (CD CK : Addr) : Sp := fun vs H Q _ => ∃ (x k l t : Addr) (ns : List Nat) (n : Nat), vs = [.ref x, .str (S (numL n))] ∧ DAt CD CK H x k l t ns ∧ ns.length < 60 ∧ 1 ≤ n ∧ n ≤ 1000000 ∧
  ∀ p H', H p = none → H' p = some (.lst []) → DAt CD CK H' x k l t (ns ++ [n]) → KeepK l t H H' → Q (.ref p) H'
def spDGo (CD CK : Addr) : Sp := fun vs H Q _ => ∃ (x k l t : Addr) (ns : List Nat) (n j : Nat), vs = [.ref x, .str (S (numL n))] ∧ DAt CD CK H x k l t ns ∧ n ≤ 1000000 ∧ ns[j]? = some n ∧ (∀ m : Nat, m < j → ns[m]? ≠ some n) ∧
  ∀ p H', H p = none → H' p = some (.lst []) → DAt CD CK H' x k l t (ns.eraseIdx j) → KeepK l t H H' → Q (.ref p) H'
/-- a line about the product -/
def spAskP (CD CK : Addr) : Sp := fun vs H Q _ => ∃ (x k l t : Addr) (ns : List Nat) (w : List Nat), vs = [.ref x, .str (S w)] ∧ DAt CD CK H x k l t ns ∧ ns.length ≤ 60 ∧
  ((w = wNumbers ∧ ∀ (zs : List Nat) (p : Addr) (H' : Hp), zs.Perm ns → zs.Pairwise (· ≤ ·) → H p = none → Same H H' → H' p = some (.lst (numRow zs)) → Q (.ref p) H') ∨
   (w = wProduct ∧ ∀ (g : Nat) (p : Addr) (H' : Hp), Pm.KExp (fun p => Pm.val p ns) g → H p = none → Same H H' → H' p = some (.lst (prodRow g)) → Q (.ref p) H') ∨
   (∃ e : Nat, w = wLacks ++ numL e ∧ 2 ≤ e ∧ e ≤ 10 ∧ ∀ (v : Nat) (p : Addr) (H' : Hp), Pm.KLack (fun p => Pm.val p ns) e v → v < 10 ^ 4300 → H p = none → Same H H' → H' p = some (.lst [.str (S (numL v))]) → Q (.ref p) H') ∨
   (∃ n : Nat, w = wCome ++ numL n ∧ 1 ≤ n ∧ n ≤ 1000000 ∧ ns.length < 60 ∧ ∀ p H', H p = none → H' p = some (.lst []) → DAt CD CK H' x k l t (ns ++ [n]) → KeepK l t H H' → Q (.ref p) H') ∨
   (∃ n j : Nat, w = wGo ++ numL n ∧ n ≤ 1000000 ∧ ns[j]? = some n ∧ (∀ m : Nat, m < j → ns[m]? ≠ some n) ∧ ∀ p H', H p = none → H' p = some (.lst []) → DAt CD CK H' x k l t (ns.eraseIdx j) → KeepK l t H H' → Q (.ref p) H'))
end Pw
namespace Pm
/-! ### what a product lacks is not too great -/
theorem KLack.le {ns : List Nat} {e v : Nat} (h : KLack (fun p => val p ns) e v) (e1 : 1 ≤ e) (hs : Sm ns) : v ≤ prd ns ^ (e - 1) := by
  have h1 := prd_pos hs.one
  refine Nat.le_of_dvd (Nat.pow_pos h1) (dvd_of_vl h.1 (Nat.pow_pos h1) fun p hp => ?_)
  rw [h.2 p hp, vl_pow hp h1, vl_prd hp hs.one]
  show (e - val p ns % e) % e ≤ _
  by_cases z : val p ns = 0
  · rw [z, Nat.zero_mod, Nat.sub_zero, Nat.mod_self, Nat.mul_zero]
    exact Nat.le_refl _
  · have h2 : (e - val p ns % e) % e ≤ e - 1 := by
      have := Nat.mod_lt (e - val p ns % e) (show 0 < e by omega)
      omega
    exact Nat.le_trans h2 (Nat.le_mul_of_pos_right _ (by omega))
theorem KLack.small {ns : List Nat} {e v : Nat} (h : KLack (fun p => val p ns) e v) (e1 : 1 ≤ e) (e2 : e ≤ 10) (hs : Sm ns) (hl : ns.length ≤ 60) : v < 10 ^ 4300 := by
  have h1 := h.le e1 hs
  have h2 := prd_bound hs
  have h3 : prd ns ^ (e - 1) ≤ 2 ^ 10800 := by
    have a : prd ns ^ (e - 1) ≤ (2 ^ (20 * ns.length)) ^ (e - 1) := Nat.pow_le_pow_left h2 _
    rw [← Nat.pow_mul] at a
    refine Nat.le_trans a (Nat.pow_le_pow_right (by decide) ?_)
    have : 20 * ns.length * (e - 1) ≤ 1200 * 9 := Nat.mul_le_mul (by omega) (by omega)
    omega
  exact Nat.lt_of_le_of_lt (Nat.le_trans h1 h3) (by decide +kernel)
end Pm
namespace Pw
open PySem PySem.Spec PyProof.Rows L2 SX TL
def spCells (K : PySem.W.Frag) : Sp := fun vs H Q _ => ∃ (a : Addr) (ns : List Int) (m : Nat), vs = [.ref a, .int (m : Int)] ∧ SqL K H a (ns.map V.int) ∧ ns.length ≤ 63 ∧
  ∀ (p : Addr) (H' : Hp) (cs : List Int), cs.length ≤ m + 1 → H p = none → Same H H' → H' p = some (.lst (cs.map V.int)) → Q (.ref p) H'
def spNumberM : Sp := fun vs H Q _ => ∃ (d : Addr) (most : Nat) (n : Nat), vs = [.ref d, .int (most : Int)] ∧ 1 ≤ most ∧ most ≤ 10 ^ 40 ∧ SeedAt H d n ∧ n ≤ 2 ^ 47 ∧ ∀ (r : Nat) (H' : Hp), r ≤ most → Keep d H H' → SeedAt H' d (n + 20) → Q (.int (r : Int)) H'
end Pw
namespace Pw
open PySem PySem.Spec PyProof.Rows L2 SX TL
theorem firstAt {m : Nat} : ∀ {l : List Nat}, m ∈ l → ∃ j : Nat, l[j]? = some m ∧ ∀ k : Nat, k < j → l[k]? ≠ some m
  | a :: r, h => by
    by_cases e : a = m
    · exact ⟨0, by rw [e]; rfl, fun k hk => absurd hk (Nat.not_lt_zero k)⟩
    · obtain ⟨j, h1, h2⟩ := firstAt ((List.mem_cons.mp h).resolve_left fun z => e z.symm)
      refine ⟨j + 1, h1, fun k hk => ?_⟩
      cases k with
      | zero => exact fun z => e (Option.some.inj z)
      | succ k => exact h2 k (by omega)
theorem SeedAt.freeK {H H' : Hp} {d p : Addr} {n : Nat} (D : SeedAt H' d n) (k : Keep d H H') (np : H' p = none) : H p = none := by
  have hd := D.ne np
  cases e : H p with
  | none => rfl
  | some o => rw [k p o hd e] at np; cases np
theorem SeedAt.lst {H : Hp} {d : Addr} {n : Nat} (D : SeedAt H d n) : ∃ ys, H d = some (.lst ys) := by
  obtain ⟨a, f, t, c, h, _⟩ := D.ex
  exact ⟨_, h⟩
/-- a deed: its line, and the numbers behind it -/
def spDeed28 : Sp := fun vs H Q _ => ∃ (d q : Addr) (n : Nat) (ms : List Nat), vs = [.ref d, .ref q] ∧ SeedAt H d n ∧ n ≤ 2 ^ 46 ∧ H q = some (.lst (nn ms)) ∧ q ≠ d ∧ Pm.Sm ms ∧ ms.length ≤ 60 ∧
  (∀ (m j : Nat) (p r : Addr) (H' : Hp), ms[j]? = some m → (∀ k : Nat, k < j → ms[k]? ≠ some m) → H p = none → H r = none → r ≠ p → H' p = some (.lst [.str (S (wGo ++ numL m)), .ref r]) → H' r = some (.lst (nn (ms.eraseIdx j))) → Keep d H H' → SeedAt H' d (n + 40) → Q (.ref p) H') ∧
  (∀ (m : Nat) (zs : List Nat) (p r : Addr) (H' : Hp), 1 ≤ m → m ≤ 1000000 → ms.length < 60 → zs.Perm (ms ++ [m]) → zs.Pairwise (· ≤ ·) → H p = none → H r = none → r ≠ p → H' p = some (.lst [.str (S (wCome ++ numL m)), .ref r]) → H' r = some (.lst (nn zs)) → Keep d H H' → SeedAt H' d (n + 40) → Q (.ref p) H')
def spPrimes28 : Sp := fun vs H Q _ => ∃ (n : Nat) (d : Addr) (f : Nat → Nat), vs = [.int (n : Int), .ref d] ∧ 1 ≤ n ∧ n ≤ 1000000 ∧ TP H d f ∧ ∀ (d' : Addr) (H' : Hp), H d' = none → Same H H' → TP H' d' (fun p => f p + Pm.vl p n) → Q (.ref d') H'
def spCommon : Sp := fun vs H Q _ => ∃ a b : Nat, vs = [.int (a : Int), .int (b : Int)] ∧ Q (.int ((Nat.gcd a b : Nat) : Int)) H
/-! ways that come together -/
theorem r_seqJ {t1 t2 : TS} {D : Ends} {σ : L2.St} {H : Hp} (W : L2.St → Hp → Prop) (h1 : ∀ N : L2.St → Hp → Prop, (∀ σ' H', W σ' H' → N σ' H') → t1 { D with nx := N } σ H) (h : ∀ σ' H', W σ' H' → t2 D σ' H') : tSeq t1 t2 D σ H := h1 _ h
theorem r_ifJ {tt : TT} {t u : TS} {D : Ends} {σ : L2.St} {H : Hp} (WT WF : Hp → Prop) (h : ∀ QT : Bool → Hp → Prop, (∀ H', WT H' → QT true H') → (∀ H', WF H' → QT false H') → tt σ H QT) (hT : ∀ H', WT H' → t D σ H') (hF : ∀ H', WF H' → u D σ H') : tIfS tt t u D σ H :=
  h (fun b H1 => if b = true then t D σ H1 else u D σ H1) (fun H' w => by rw [if_pos rfl]; exact hT H' w) (fun H' w => by rw [if_neg (by decide)]; exact hF H' w)
theorem r_ifD {a b : Int} {QT : Bool → Prop} (h1 : a = b → QT true) (h2 : a ≠ b → QT false) : QT (decide (V.int a = V.int b)) := by
  by_cases e : a = b
  · rw [decide_eq_true (show V.int a = V.int b by rw [e])]
    exact h1 e
  · rw [decide_eq_false (show ¬ V.int a = V.int b from fun z => e (V.int.inj z))]
    exact h2 e
end Pw
namespace Pw
open PySem PySem.Spec PyProof.Rows L2 SX TL
/-- what a desk is to tell: the lines and their rows -/
structure DuesAt (H : Hp) (p : Addr) (ms : List Nat) (g e v : Nat) (a b c r1 r2 r3 : Addr) : Prop where
  hp : H p = some (.lst [.ref a, .ref b, .ref c])
  ha : H a = some (.lst [.str (S wNumbers), .ref r1])
  h1 : H r1 = some (.lst (numRow ms))
  hb : H b = some (.lst [.str (S wProduct), .ref r2])
  h2 : H r2 = some (.lst (prodRow g))
  hc : H c = some (.lst [.str (S (wLacks ++ numL e)), .ref r3])
  h3 : H r3 = some (.lst [.str (S (numL v))])
def spDues28 : Sp := fun vs H Q _ => ∃ (d q : Addr) (n : Nat) (ms : List Nat), vs = [.ref d, .ref q] ∧ SeedAt H d n ∧ n ≤ 2 ^ 46 ∧ H q = some (.lst (nn ms)) ∧ q ≠ d ∧ Pm.Sm ms ∧ ms.length ≤ 60 ∧
  ∀ (p a b c r1 r2 r3 : Addr) (g e v : Nat) (H' : Hp), Pm.KExp (fun p => Pm.val p ms) g → 2 ≤ e → e ≤ 10 → Pm.KLack (fun p => Pm.val p ms) e v → H p = none → H a = none → H b = none → H c = none → H r1 = none → H r2 = none → H r3 = none →
    DuesAt H' p ms g e v a b c r1 r2 r3 → Keep d H H' → SeedAt H' d (n + 2) → Q (.ref p) H'
/-- the greatest exponent, by common divisors of how often each prime is there -/
theorem KExp_gcd {f : Nat → Nat} {ks : List Nat} {G : Nat} (hks : ∀ p, p ∈ ks ↔ Pm.Prime p ∧ 0 < f p) (h1 : ∀ k ∈ ks, G ∣ f k) (h2 : ∀ e, (∀ k ∈ ks, e ∣ f k) → e ∣ G) : (G = 0 ∧ Pm.KExp f 2) ∨ (1 ≤ G ∧ Pm.KExp f G) := by
  have z : ∀ p, Pm.Prime p → p ∉ ks → f p = 0 := fun p hp m => Nat.eq_zero_of_not_pos fun w => m ((hks p).mpr ⟨hp, w⟩)
  cases ks with
  | nil =>
    left
    refine ⟨Nat.eq_zero_of_zero_dvd (h2 0 fun k hk => by simp at hk), .inl ⟨fun p hp => z p hp (by simp), rfl⟩⟩
  | cons k0 kr =>
    right
    have m0 := (hks k0).mp (List.mem_cons_self ..)
    have G1 : 1 ≤ G := Nat.pos_of_dvd_of_pos (h1 k0 (List.mem_cons_self ..)) m0.2
    refine ⟨G1, .inr ⟨⟨k0, m0⟩, fun p hp => ?_, fun e he => h2 e fun k hk => he k ((hks k).mp hk).1⟩⟩
    by_cases m : p ∈ k0 :: kr
    · exact h1 p m
    · rw [z p hp m]
      exact Nat.dvd_zero G
end Pw
namespace Pw
open PySem PySem.Spec PyProof.Rows L2 SX TL
def OkS (ss : List Str) : Prop := ∀ s ∈ ss, PyData.strOk s = true
theorem okS1 {l : List Nat} (h : ∀ c ∈ l, c < 1114112) : OkS [S l] := fun s hs => by
  have : s = S l := by simpa using hs
  rw [this]
  show (S l).cps.all (· < 0x110000) = true
  rw [← Array.all_toList]
  exact List.all_eq_true.mpr fun c hc => decide_eq_true (h c hc)
/-- the told lists that are held, each beside what was due: H's list hl of pairs -/
structure HeldAt (H : Hp) (hl : Addr) (L : List (Addr × Addr × Addr × List Str)) : Prop where
  hh : H hl = some (.lst (L.map fun e => V.ref e.1))
  he : ∀ e ∈ L, H e.1 = some (.tup [.ref e.2.1, .ref e.2.2.1]) ∧ H e.2.1 = some (.lst (e.2.2.2.map V.str)) ∧ H e.2.2.1 = some (.lst (e.2.2.2.map V.str)) ∧ e.2.1 ≠ hl ∧ e.2.2.1 ≠ hl ∧ OkS e.2.2.2
/-- the desk, the law's own numbers, and what is held -/
structure DeskS (CD CK : Addr) (H : Hp) (x k l t q hl : Addr) (ns ms : List Nat) (L : List (Addr × Addr × Addr × List Str)) : Prop where
  D : DAt CD CK H x k l t ns
  hq : H q = some (.lst (nn ms))
  pm : ms.Perm ns
  so : ms.Pairwise (· ≤ ·)
  len : ns.length ≤ 60
  Q : HeldAt H hl L
  nlq : l ≠ q
  nlh : l ≠ hl
  nqh : q ≠ hl
  nle : ∀ e ∈ L, e.2.1 ≠ l ∧ e.2.2.1 ≠ l
section
variable {CD CK : Addr} {H H' : Hp} {x k l t q hl d : Addr} {ns ms : List Nat} {L : List (Addr × Addr × Addr × List Str)}
theorem DeskS.same (S : DeskS CD CK H x k l t q hl ns ms L) (s : Same H H') : DeskS CD CK H' x k l t q hl ns ms L :=
  { S with D := S.D.same s, hq := s _ _ S.hq, Q := ⟨s _ _ S.Q.hh, fun e he => ⟨s _ _ (S.Q.he e he).1, s _ _ (S.Q.he e he).2.1, s _ _ (S.Q.he e he).2.2.1, (S.Q.he e he).2.2.2⟩⟩ }
/-- what else stays: a seed that is none of these -/
structure Off (d q hl l : Addr) (L : List (Addr × Addr × Addr × List Str)) : Prop where
  nq : q ≠ d
  nh : hl ≠ d
  nl : l ≠ d
  ne : ∀ e ∈ L, e.2.1 ≠ d ∧ e.2.2.1 ≠ d
theorem DeskS.keep (S : DeskS CD CK H x k l t q hl ns ms L) (O : Off d q hl l L) (s : Keep d H H') {ys : List V} (hd : H d = some (.lst ys)) : DeskS CD CK H' x k l t q hl ns ms L :=
  { S with
    D := S.D.keep s hd O.nl
    hq := s _ _ O.nq S.hq
    Q := ⟨s _ _ O.nh S.Q.hh, fun e he => ⟨s _ _ (ne_of (S.Q.he e he).1 hd (by intro z; cases z)) (S.Q.he e he).1, s _ _ (O.ne e he).1 (S.Q.he e he).2.1, s _ _ (O.ne e he).2 (S.Q.he e he).2.2.1, (S.Q.he e he).2.2.2⟩⟩ }
theorem DeskS.off (S : DeskS CD CK H x k l t q hl ns ms L) (nd : H d = none) : Off d q hl l L :=
  ⟨ne_of_none S.hq nd, ne_of_none S.Q.hh nd, ne_of_none S.D.kp.li nd, fun e he => ⟨ne_of_none (S.Q.he e he).2.1 nd, ne_of_none (S.Q.he e he).2.2.1 nd⟩⟩
/-- one told list more -/
theorem DeskS.push (S : DeskS CD CK H x k l t q hl ns ms L) {T a b : Addr} {ss : List Str} (hT : H T = some (.tup [.ref a, .ref b])) (ha : H a = some (.lst (ss.map V.str))) (hb : H b = some (.lst (ss.map V.str))) (na : a ≠ hl) (nb : b ≠ hl) (nal : a ≠ l) (nbl : b ≠ l) (ok : OkS ss) :
    DeskS CD CK (upd H hl (.lst (L.map (fun e => V.ref e.1) ++ [.ref T]))) x k l t q hl ns ms (L ++ [(T, a, b, ss)]) := by
  have nT : T ≠ hl := ne_of hT S.Q.hh (by intro z; cases z)
  refine { S with D := S.D.updl S.Q.hh S.nlh, hq := by rw [upd_ne S.nqh]; exact S.hq, Q := ⟨by rw [upd_same, List.map_append]; rfl, fun e he => ?_⟩, nle := fun e he => ?_ }
  · rcases List.mem_append.mp he with z | z
    · obtain ⟨h1, h2, h3, h4, h5⟩ := S.Q.he e z
      have n1 : e.1 ≠ hl := ne_of h1 S.Q.hh (by intro z; cases z)
      exact ⟨by rw [upd_ne n1]; exact h1, by rw [upd_ne h4]; exact h2, by rw [upd_ne h5.1]; exact h3, h4, h5⟩
    · have : e = (T, a, b, ss) := by simpa using z
      subst this
      exact ⟨by rw [upd_ne nT]; exact hT, by rw [upd_ne na]; exact ha, by rw [upd_ne nb]; exact hb, na, nb, ok⟩
  · rcases List.mem_append.mp he with z | z
    · exact S.nle e z
    · have : e = (T, a, b, ss) := by simpa using z
      subst this
      exact ⟨nal, nbl⟩
/-- behind a deed -/
theorem DeskS.deed (S : DeskS CD CK H x k l t q hl ns ms L) {q' : Addr} {ns' ms' : List Nat} (hD : DAt CD CK H' x k l t ns') (kk : KeepK l t H H') (hq' : H q' = some (.lst (nn ms'))) (nlq : l ≠ q') (nqh : q' ≠ hl) (pm : ms'.Perm ns') (so : ms'.Pairwise (· ≤ ·)) (len : ns'.length ≤ 60) :
    DeskS CD CK H' x k l t q' hl ns' ms' L := by
  have tl : ∀ {e : Addr} {ys : List V}, H e = some (.lst ys) → e ≠ t := fun he => (S.D.kp.tl he).symm
  refine ⟨hD, kk _ _ nlq.symm (tl hq') hq', pm, so, len, ⟨kk _ _ S.nlh.symm (tl S.Q.hh) S.Q.hh, fun e he => ?_⟩, nlq, S.nlh, nqh, S.nle⟩
  obtain ⟨h1, h2, h3, h4, h5⟩ := S.Q.he e he
  obtain ⟨n1, n2⟩ := S.nle e he
  have m1 : e.1 ≠ l := ne_of h1 S.D.kp.li (by intro z; cases z)
  have m2 : e.1 ≠ t := by
    obtain ⟨ks, ⟨_, kvs, h, _⟩, _⟩ := S.D.kp.ti
    exact ne_of h1 h (by intro z; cases z)
  exact ⟨kk _ _ m1 m2 h1, kk _ _ n1 (tl h2) h2, kk _ _ n2 (tl h3) h3, h4, h5⟩
end
end Pw
namespace Pw
open PySem PySem.Spec PyProof.Rows L2 SX TL
/-! lists of texts compared -/
section
variable {K : PySem.W.Frag} {H : Hp} {Q : VK}
theorem dp_strs : ∀ ss : List Str, DpAll K H (ss.map V.str) (ss.map PyData.str)
  | [] => .nil
  | n :: ns => .cons (.str n) (dp_strs ns)
theorem lay_strs : ∀ ss : List Str, OkS ss → PyData.canLayAll0 (ss.map PyData.str) = true
  | [], _ => by simp only [List.map_nil, PyData.canLayAll0]
  | n :: ns, h => by
    have h1 := h n (List.mem_cons_self ..)
    have h2 := lay_strs ns fun s hs => h s (List.mem_cons_of_mem _ hs)
    simp only [List.map_cons, PyData.canLayAll0, PyData.canLay0, h1, h2, Bool.and_self]
theorem depth_strs : ∀ ss : List Str, PyData.depthAll (ss.map PyData.str) = 0
  | [] => by simp only [List.map_nil, PyData.depthAll]
  | n :: ns => by simp only [List.map_cons, PyData.depthAll, PyData.depth, depth_strs ns, Nat.max_self]
theorem lay_lst {ss : List Str} (h : OkS ss) : (PyData.list (ss.map PyData.str)).canLay0 = true := by
  simp only [PyData.canLay0]
  exact lay_strs ss h
theorem shaped_strs {ss : List Str} (h : OkS ss) : SeqAt.shaped (.list (ss.map PyData.str)) = true := by
  unfold SeqAt.shaped
  rw [lay_lst h]
  simp only [PyData.depth, depth_strs, Bool.true_and, decide_eq_true_eq]
  decide
theorem r_eqSame {p q : Addr} {ss : List Str} (ok : OkS ss) (hp : SqL K H p (ss.map V.str)) (hq : SqL K H q (ss.map V.str)) (k : Q (.bl true) H) : rEqD K (.ref p) (.ref q) H Q :=
  ⟨.list (ss.map PyData.str), .list (ss.map PyData.str), .lst hp (dp_strs ss), .lst hq (dp_strs ss), shaped_strs ok, shaped_strs ok, by rw [SeqAt.eqv_refl _ (lay_lst ok)]; exact k⟩
theorem r_neSame {p q : Addr} {ss : List Str} (ok : OkS ss) (hp : SqL K H p (ss.map V.str)) (hq : SqL K H q (ss.map V.str)) (k : Q (.bl false) H) : rNeD K (.ref p) (.ref q) H Q :=
  ⟨.list (ss.map PyData.str), .list (ss.map PyData.str), .lst hp (dp_strs ss), .lst hq (dp_strs ss), shaped_strs ok, shaped_strs ok, by rw [SeqAt.eqv_refl _ (lay_lst ok)]; exact k⟩
theorem r_isiLL {p : Addr} {xs : List V} (h : H p = some (.lst xs)) (q : Q (.bl true) H) : rIsi K [.ref p, .ty "list"] H Q := r_isi (.base (.lst h)) kB_ll q
end
/-! all but some stays -/
def KeepO (A : List Addr) (H H' : Hp) : Prop := ∀ b o, b ∉ A → H b = some o → H' b = some o
theorem KeepO.of {A : List Addr} {H H' : Hp} (s : Same H H') : KeepO A H H' := fun b o _ h => s b o h
theorem KeepO.trans {A : List Addr} {H H1 H2 : Hp} (a : KeepO A H H1) (b : KeepO A H1 H2) : KeepO A H H2 := fun c o n h => b c o n (a c o n h)
theorem KeepO.mono {A B : List Addr} {H H' : Hp} (a : KeepO A H H') (s : ∀ x ∈ A, x ∈ B) : KeepO B H H' := fun c o n h => a c o (fun z => n (s c z)) h
theorem KeepO.k {A : List Addr} {H H' : Hp} {d : Addr} (a : Keep d H H') (m : d ∈ A) : KeepO A H H' := fun c o n h => a c o (fun z => n (by rw [z]; exact m)) h
theorem KeepO.kk {A : List Addr} {H H' : Hp} {l t : Addr} (a : KeepK l t H H') (m : l ∈ A) (m2 : t ∈ A) : KeepO A H H' := fun c o n h => a c o (fun z => n (by rw [z]; exact m)) (fun z => n (by rw [z]; exact m2)) h
theorem KeepO.upd {A : List Addr} {H : Hp} {p : Addr} {o : HO} (m : p ∈ A) : KeepO A H (upd H p o) := fun c o n h => by rw [upd_ne (fun z => n (by rw [z]; exact m))]; exact h
theorem KeepO.updN {A : List Addr} {H H' : Hp} {p : Addr} {o : HO} (a : KeepO A H H') (np : H p = none) : KeepO A H (L2.upd H' p o) := fun c o n h => by rw [upd_ne (ne_of_none h np)]; exact a c _ n h
def spRight28 (CD CK : Addr) : Sp := fun vs H Q _ => ∃ (d x k l t q hl : Addr) (n : Nat) (ns ms : List Nat) (L : List (Addr × Addr × Addr × List Str)), vs = [.ref d, .ref x, .ref q, .ref hl] ∧ SeedAt H d n ∧ n ≤ 2 ^ 45 ∧ DeskS CD CK H x k l t q hl ns ms L ∧ Off d q hl l L ∧ L.length ≤ 5000 ∧
  ∀ (L' : List (Addr × Addr × Addr × List Str)) (H' : Hp), DeskS CD CK H' x k l t q hl ns ms L' → SeedAt H' d (n + 10) → L'.length ≤ L.length + 3 → KeepO [d, hl] H H' → Q (.bl true) H'
/-- a question to the desk, and its rows -/
structure AskRow (CD CK : Addr) (ns : List Nat) (w : List Nat) (ss : List Str) : Prop where
  ok : OkS ss
  few : ss.length < 1000000
  run : ∀ {H : Hp} {x k l t : Addr} {Q : VK} {E : XK}, DAt CD CK H x k l t ns → (∀ p H', H p = none → Same H H' → H' p = some (.lst (ss.map V.str)) → Q (.ref p) H') → spAskP CD CK [.ref x, .str (S w)] H Q E
theorem numL_small (n : Nat) : ∀ c ∈ numL n, c < 1114112 := fun c hc => by
  have := numL_digits n c hc
  omega
theorem joinL_small : ∀ ls : List (List Nat), (∀ l ∈ ls, ∀ c ∈ l, c < 1114112) → ∀ c ∈ TL.joinL [32] ls, c < 1114112
  | [], _, c, h => by simp [TL.joinL] at h
  | [x], hl, c, h => hl x (List.mem_cons_self ..) c (by simpa [TL.joinL] using h)
  | x :: y :: r, hl, c, h => by
    rw [TL.joinL] at h
    rcases List.mem_append.mp h with z | z
    · exact hl x (List.mem_cons_self ..) c z
    rcases List.mem_append.mp z with z | z
    · have : c = 32 := by simpa using z
      omega
    · exact joinL_small (y :: r) (fun l hl' => hl l (List.mem_cons_of_mem _ hl')) c z
theorem numRow_strs (ms : List Nat) : ∃ ss : List Str, numRow ms = ss.map V.str ∧ OkS ss ∧ ss.length < 1000000 := by
  unfold numRow
  by_cases h : ms = []
  · exact ⟨[], by rw [if_pos h]; rfl, fun s hs => by simp at hs, by decide⟩
  · exact ⟨[S (TL.joinL [32] (ms.map numL))], by rw [if_neg h]; rfl, okS1 (joinL_small _ fun l hl => by
      obtain ⟨n, _, rfl⟩ := List.mem_map.mp hl
      exact numL_small n), (show 1 < 1000000 by decide)⟩
theorem KExp_perm {ns ms : List Nat} {g : Nat} (p : ms.Perm ns) (h : Pm.KExp (fun p => Pm.val p ms) g) : Pm.KExp (fun p => Pm.val p ns) g := by
  have : (fun p => Pm.val p ns) = fun p => Pm.val p ms := funext fun q => (Pm.val_perm q p).symm
  rw [this]
  exact h
theorem KLack_perm {ns ms : List Nat} {e v : Nat} (p : ms.Perm ns) (h : Pm.KLack (fun p => Pm.val p ms) e v) : Pm.KLack (fun p => Pm.val p ns) e v := by
  have : (fun p => Pm.val p ns) = fun p => Pm.val p ms := funext fun q => (Pm.val_perm q p).symm
  rw [this]
  exact h
theorem AskRow.numbers {CD CK : Addr} {ns ms : List Nat} {ss : List Str} (p : ms.Perm ns) (so : ms.Pairwise (· ≤ ·)) (len : ns.length ≤ 60) (e : numRow ms = ss.map V.str) (ok : OkS ss) (few : ss.length < 1000000) : AskRow CD CK ns wNumbers ss :=
  ⟨ok, few, fun {H x k l t Q E} hD q => ⟨x, k, l, t, ns, _, rfl, hD, len, .inl ⟨rfl, fun zs p' H' pz sz np s hp => q p' H' np s (by
    have ez : zs = ms := sorted_uniq (pz.trans p.symm) sz so
    rw [hp, ez, e])⟩⟩⟩
theorem AskRow.product {CD CK : Addr} {ns ms : List Nat} {g : Nat} (p : ms.Perm ns) (len : ns.length ≤ 60) (hg : Pm.KExp (fun p => Pm.val p ms) g) : AskRow CD CK ns wProduct [S (if 1 < g then wPower ++ numL g else wNone)] :=
  ⟨okS1 fun c hc => by
    split at hc
    · rcases List.mem_append.mp hc with z | z
      · exact Nat.lt_trans ((show ∀ c ∈ wPower, c < 200 from by decide) c z) (by decide)
      · exact numL_small g c z
    · exact Nat.lt_trans ((show ∀ c ∈ wNone, c < 200 from by decide) c hc) (by decide), (show 1 < 1000000 by decide), fun {H x k l t Q E} hD q => ⟨x, k, l, t, ns, _, rfl, hD, len, .inr (.inl ⟨rfl, fun g' p' H' hg' np s hp => q p' H' np s (by
    have eg : g' = g := hg'.uniq (KExp_perm p hg)
    rw [hp, eg]
    rfl)⟩)⟩⟩
theorem AskRow.lacks {CD CK : Addr} {ns ms : List Nat} {e v : Nat} (p : ms.Perm ns) (len : ns.length ≤ 60) (e2 : 2 ≤ e) (e10 : e ≤ 10) (hv : Pm.KLack (fun p => Pm.val p ms) e v) : AskRow CD CK ns (wLacks ++ numL e) [S (numL v)] :=
  ⟨okS1 (numL_small v), (show 1 < 1000000 by decide), fun {H x k l t Q E} hD q => ⟨x, k, l, t, ns, _, rfl, hD, len, .inr (.inr (.inl ⟨e, rfl, e2, e10, fun v' p' H' hv' _ np s hp => q p' H' np s (by
    have ev : v' = v := hv'.uniq (KLack_perm p hv)
    rw [hp, ev]
    rfl)⟩))⟩⟩
end Pw

/-! pairwise over a list of numbers -/
namespace PW2
open PySem PySem.Spec PyProof.Rows L2
theorem slot_next : Slot "itertools.pairwise" "__next__" "itertools.pairwise.__next__" :=
  .of (owner := "itertools.pairwise") (n := "__next__") (by rw [typeLookup_type, builtinLookup_eq_fast]; kernel_rfl) (by decide +kernel) (by decide +kernel) (by decide +kernel)
    (by first | exact .inl (by decide +kernel) | exact .inr (by decide +kernel)) (by rw [isSubtype_type]; kernel_rfl)
theorem slot_iter : Slot "itertools.pairwise" "__iter__" "itertools.pairwise.__iter__" :=
  .of (owner := "itertools.pairwise") (n := "__iter__") (by rw [typeLookup_type, builtinLookup_eq_fast]; kernel_rfl) (by decide +kernel) (by decide +kernel) (by decide +kernel)
    (by first | exact .inl (by decide +kernel) | exact .inr (by decide +kernel)) (by rw [isSubtype_type]; kernel_rfl)
theorem slot_init : Slot "itertools.pairwise" "__init__" "object.__init__" :=
  .of (owner := "object") (n := "__init__") (by rw [typeLookup_type, builtinLookup_eq_fast]; kernel_rfl) (by decide +kernel) (by decide +kernel) (by decide +kernel)
    (by first | exact .inl (by decide +kernel) | exact .inr (by decide +kernel)) (by rw [isSubtype_type]; kernel_rfl)
theorem entry_next : entryFor table "itertools.pairwise.__next__" = some Builtin.«itertools.pairwise.__next__» := entryFor_of_fast (by kernel_rfl)
theorem entry_new : entryFor table "itertools.pairwise.__new__" = some Builtin.«itertools.pairwise.__new__» := entryFor_of_fast (by kernel_rfl)
theorem entry_iter : entryFor table "itertools.pairwise.__iter__" = some Builtin.«dict_keyiterator.__iter__» :=
  entryFor_alias (id' := "dict_keyiterator.__iter__") (by kernel_rfl) (by first | rfl | decide +kernel) (by decide +kernel) (by kernel_rfl)
theorem args_next (a : Value) : argsOk "itertools.pairwise.__next__" ⟨[a], []⟩ := by unfold argsOk; kernel_rfl
theorem args_iter (a : Value) : argsOk "itertools.pairwise.__iter__" ⟨[a], []⟩ := by unfold argsOk; kernel_rfl
theorem mro : mroOf (.type "itertools.pairwise") = pure [.type "itertools.pairwise", .type "object"] := by rw [mroOf_type]; kernel_rfl
theorem lookup_new : typeLookup (.type "itertools.pairwise") "__new__" = pure (some (.builtin "itertools.pairwise.__new__")) := by rw [typeLookup_type, builtinLookup_eq_fast]; kernel_rfl
theorem sub_self : isSubtype (.type "itertools.pairwise") (.type "itertools.pairwise") = pure true := by rw [isSubtype_type]; kernel_rfl
theorem called : TypeCalled "itertools.pairwise" "itertools.pairwise.__new__" "object.__init__" :=
  ⟨by decide +kernel, by decide +kernel, ⟨_, _, mro⟩, madeBy_type mro lookup_new (by decide +kernel), by decide +kernel, sub_self, slot_init⟩
theorem typeCall (a : Value) : checkTypeCall "itertools.pairwise" ⟨[a], []⟩ = pure () := by kernel_rfl
theorem newCall (a : Value) : checkBuiltinCall "itertools.pairwise.__new__" ⟨[.type "itertools.pairwise", a], []⟩ = pure () := by kernel_rfl
theorem args_init (a b : Value) : argsOk "object.__init__" ⟨[a, b], []⟩ := by
  unfold argsOk; rw [signature?_of (id := "object.__init__") (n := ['_', '_', 't', 'i', 'n', 'i', '_', '_']) (o := ['t', 'c', 'e', 'j', 'b', 'o']) (by kernel_rfl) F.owner_object]; kernel_rfl
end PW2

namespace PW2
open PySem PySem.Spec PyProof.Rows L2
section
variable {P : Program} {w : World} {A : Around} {E : Value → Shared → Prop} {s : Shared}
theorem raw_item {it l : Addr} {i : Nat} {its : Array Value} {x : Value} {Q : Value → Shared → Prop} (hit : s.heap.IsListIter it l i) (hl : s.heap.IsList l its) (hx : its[i]? = some x)
    (q : ∀ h', h'.IsListIter it l (i + 1) → Heap.SameBut it s.heap h' → Q x { s with heap := h' }) : wpAny (model P w) A (Builtin.Itertools.itRawNext (.ref it)) Q E s := by
  obtain ⟨o, ho, hc, hd⟩ := id hit
  obtain ⟨ol, hol, _, nl, hdl⟩ := id hl
  unfold Builtin.Itertools.itRawNext
  have go : wpAny (model P w) A (callSpecial? (.ref it) (Str.ofString "__next__")) (fun r s' => r = some x ∧ Q x s') E s := by
    refine wpAny_callSpecial?_slot (name := Str.ofString "__next__") hit.typeIs slot_listiter_next (wpAny_call_entry slot_listiter_next hit.typeIs entry_listiter_next ?_ (args_listiter_next _))
    show wpAny _ _ (field (.ref it) 0 >>= _) _ _ _
    refine wpAny_bind (wpAny_field ho hd (x := .ref l) rfl ?_)
    refine wpAny_bind (m := field (.ref it) 1) (wpAny_field ho hd (x := .int i 0) rfl ?_)
    refine wpAny_bind (m := seqItems? (.ref l)) (wpAny_seqItems hol hdl ?_)
    simp only [Int.toNat_natCast, hx]
    refine wpAny_bind (wpAny_setField ho hd (by simp) (wpAny_pure ⟨x, rfl, rfl, q _ ⟨_, Heap.get?_update_self _ ho (Obj.isFreed_of_fields (Obj.data_mapFields hd _)), (Obj.cls_mapFields ..).trans hc, ?_⟩ (Heap.SameBut.update ..)⟩))
    rw [Obj.data_mapFields hd]
    simp [rawInt]
  refine wpAny_bind (wpAny_mono go (fun r s' h => ?_) fun _ _ z => z)
  obtain ⟨rfl, h⟩ := h
  exact wpAny_pure h
theorem raw_end {it l : Addr} {i : Nat} {its : Array Value} {Q : Value → Shared → Prop} (hh : A.handled = none) (hit : s.heap.IsListIter it l i) (hl : s.heap.IsList l its) (hx : its[i]? = none)
    (q : ∀ h' e, Heap.ExtBut it s.heap h' → (∃ o, h'.get? e = some o ∧ o.cls = .type "StopIteration") → E (.ref e) { s with heap := h' }) : wpAny (model P w) A (Builtin.Itertools.itRawNext (.ref it)) Q E s := by
  obtain ⟨o, ho, hc, hd⟩ := id hit
  obtain ⟨ol, hol, _, nl, hdl⟩ := id hl
  unfold Builtin.Itertools.itRawNext
  have go : wpAny (model P w) A (callSpecial? (.ref it) (Str.ofString "__next__")) (fun _ _ => False) E s := by
    refine wpAny_callSpecial?_slot (name := Str.ofString "__next__") hit.typeIs slot_listiter_next (wpAny_call_entry slot_listiter_next hit.typeIs entry_listiter_next ?_ (args_listiter_next _))
    show wpAny _ _ (field (.ref it) 0 >>= _) _ _ _
    refine wpAny_bind (wpAny_field ho hd (x := .ref l) rfl ?_)
    refine wpAny_bind (m := field (.ref it) 1) (wpAny_field ho hd (x := .int i 0) rfl ?_)
    refine wpAny_bind (m := seqItems? (.ref l)) (wpAny_seqItems hol hdl ?_)
    simp only [Int.toNat_natCast, hx]
    refine wpAny_bind (wpAny_rule (wpAny_bind (wpAny_setField ho hd (by simp) ?_)))
    refine wpAny_bind (m := newExc (.type "StopIteration") []) ?_
    simp only [newExc, newTuple]
    refine wpAny_bind (wpAny_newObj_type ?_ (by size_fits))
    refine wpAny_bind (m := firstArgMember _ _) (wpAny_of_eq (a := Value.none) (by first | rfl | (simp only [firstArgMember]; rfl)) (wpAny_newObj_type ?_ (by size_fits)))
    simp only [raiseNew]
    refine wpAny_bind (wpAny_handled ?_)
    first | rw [show A.in1.handled = none from hh] | rw [hh]
    exact wpAny_bind (wpAny_pure (wpAny_throw (q _ _ (((Heap.SameBut.update ..).extBut.push _).push _) ⟨_, Heap.get?_push_size _ rfl, rfl⟩)))
  exact wpAny_bind (wpAny_mono go (fun r s' h => h.elim) fun _ _ z => z)
end
/-- the walk at z: its list's own walk at I, what it holds back, its tuple -/
abbrev IsPw (h : Heap) (z I TO : Addr) (f0 old : Value) : Prop := h.get? z = some { cls := .type "itertools.pairwise", dict := none, data := .fields #[f0, .bool false, .ref I, old, .ref TO], slots := #[] }
structure Apart (z I TO l : Addr) : Prop where
  zI : z ≠ I
  zT : z ≠ TO
  zl : z ≠ l
  IT : I ≠ TO
  Il : I ≠ l
  Tl : TO ≠ l
section
variable {P : Program} {w : World} {A : Around} {E : Value → Shared → Prop} {s : Shared} {z I TO l : Addr} {its : Array Value}
/-- a turn behind the first: x held back, y comes -/
theorem next_later {k : Nat} {x y a b : Value} {Q : Value → Shared → Prop} (D : Apart z I TO l) (hz : IsPw s.heap z I TO .none x) (hno : (x == rawInt 0) = false) (hT : IsPair s.heap TO a b) (hI : s.heap.IsListIter I l k) (hl : s.heap.IsList l its) (hy : its[k]? = some y)
    (q : ∀ h', IsPw h' z I TO (rawInt s.heap.objs.size) y → (∃ a b, IsPair h' TO a b) → h'.IsListIter I l (k + 1) → IsPair h' s.heap.objs.size x y → h'.objs.size = s.heap.objs.size + 1 →
      (∀ c o, c ≠ z → c ≠ TO → c ≠ I → s.heap.get? c = some o → h'.get? c = some o) → Q (.ref s.heap.objs.size) { s with heap := h' }) :
    wpAny (model P w) A (Builtin.«itertools.pairwise.__next__» ⟨[.ref z], []⟩) (fun fin s' => ∃ v, fin = .done (.ret v) ∧ Q v s') E s := by
  unfold Builtin.«itertools.pairwise.__next__»
  refine wpAny_bind (wpAny_pure ?_)
  refine wpAny_bind (wpAny_field hz rfl (x := .ref I) rfl ?_)
  dsimp only
  refine wp_if_neg (show ¬ ((Value.ref I == Value.none) = true) from Bool.false_ne_true) ?_
  refine wpAny_bind (wpAny_field hz rfl (x := x) rfl ?_)
  refine wp_if_neg (show ¬ ((x == rawInt 0) = true) by rw [hno]; exact Bool.false_ne_true) ?_
  refine wpAny_bind (wpAny_field hz rfl (x := x) rfl ?_)
  refine wpAny_bind (wpAny_holding (wpAny_tryCatch (raw_item hI hl hy fun h1 hI1 s1 => ?_)))
  have hz1 := s1.extBut _ _ D.zI hz
  have hT1 := s1.extBut _ _ D.IT.symm hT
  refine wpAny_bind (wpAny_holding (wpAny_newTuple ?_))
  have hzlt : z < h1.objs.size := Heap.lt_size hz1
  have hTlt : TO < h1.objs.size := Heap.lt_size hT1
  have hIlt : I < h1.objs.size := by obtain ⟨_, e, _⟩ := hI1; exact Heap.lt_size e
  have hsz : h1.objs.size = s.heap.objs.size := s1.1
  obtain ⟨h2, e2⟩ : ∃ h2, h2 = h1.push { cls := .type "tuple", data := .seq #[x, y] } := ⟨_, rfl⟩
  have up2 : ∀ c o, h1.get? c = some o → h2.get? c = some o := fun c o e => by rw [e2]; exact Heap.get?_push_of_some _ e
  have hR2 : IsPair h2 h1.objs.size x y := by rw [e2]; exact Heap.get?_push_size _ rfl
  have hz2 : IsPw h2 z I TO .none x := up2 _ _ hz1
  have hT2 : IsPair h2 TO a b := up2 _ _ hT1
  have hs2 : h2.objs.size = h1.objs.size + 1 := by rw [e2]; exact Heap.size_push ..
  show wpAny _ _ _ _ _ { s with heap := h1.push { cls := .type "tuple", data := .seq #[x, y] } }
  rw [← e2]
  refine wpAny_bind ?_
  unfold Builtin.Itertools.itOwnedIsFree
  refine wpAny_bind (wpAny_field hz2 rfl (x := .none) rfl (wpAny_pure ?_))
  refine wp_if_pos rfl ?_
  refine wpAny_bind (wpAny_rule ?_)
  refine wpAny_bind (wpAny_field hz2 rfl (x := .ref TO) rfl ?_)
  dsimp only
  refine wpAny_bind ?_
  unfold Builtin.Itertools.itPoolItems
  refine wpAny_bind (wpAny_seqItems hT2 rfl (wpAny_pure ?_))
  refine wpAny_bind (wpAny_updateSeq hT2 rfl ?_)
  obtain ⟨h3, e3⟩ : ∃ h3, h3 = h2.update TO (Obj.mapSeq fun _ => #[x, y]) := ⟨_, rfl⟩
  have s3 : Heap.SameBut TO h2 h3 := by rw [e3]; exact Heap.SameBut.update ..
  have hT3 : ∃ a b, IsPair h3 TO a b := ⟨x, y, by
    rw [e3]
    show (h2.update TO (Obj.mapSeq fun _ => #[x, y])).get? TO = _
    rw [Heap.get?_update_self _ hT2 rfl]
    rfl⟩
  show wpAny _ _ _ _ _ { s with heap := h2.update TO (Obj.mapSeq fun _ => #[x, y]) }
  rw [← e3]
  have hz3 : IsPw h3 z I TO .none x := s3.extBut _ _ D.zT hz2
  refine wpAny_bind ?_
  unfold Builtin.Itertools.itOwnedHandOut
  dsimp only
  refine wpAny_bind (wpAny_setField_rec hz3 (by simp) fun h4 hz4 s4 => ?_)
  replace hz4 : IsPw h4 z I TO (rawInt h1.objs.size) x := hz4
  refine wpAny_setField_rec hz4 (by simp) fun h5 hz5 s5 => ?_
  replace hz5 : IsPw h5 z I TO (rawInt h1.objs.size) x := hz5
  refine wpAny_bind (wpAny_setField_rec hz5 (by simp) fun h6 hz6 s6 => ?_)
  replace hz6 : IsPw h6 z I TO (rawInt h1.objs.size) y := hz6
  refine wpAny_bind (wpAny_letGo (wpAny_pure ⟨_, rfl, ?_⟩))
  have up : ∀ c o, c ≠ z → c ≠ TO → h2.get? c = some o → h6.get? c = some o := fun c o c1 c2 e => s6.extBut _ _ c1 (s5.extBut _ _ c1 (s4.extBut _ _ c1 (s3.extBut _ _ c2 e)))
  have hs6 : h6.objs.size = h1.objs.size + 1 := by rw [s6.1, s5.1, s4.1, s3.1, hs2]
  have upz : ∀ c o, c ≠ z → h3.get? c = some o → h6.get? c = some o := fun c o c1 e => s6.extBut _ _ c1 (s5.extBut _ _ c1 (s4.extBut _ _ c1 e))
  have nz : h1.objs.size ≠ z := Nat.ne_of_gt hzlt
  have nT : h1.objs.size ≠ TO := Nat.ne_of_gt hTlt
  have hR6 : IsPair h6 h1.objs.size x y := up _ _ nz nT hR2
  rw [hsz] at hz6 hR6 hs6
  show Q (.ref h1.objs.size) _
  rw [hsz]
  obtain ⟨ta, tb, hT3⟩ := hT3
  exact q h6 hz6 ⟨ta, tb, upz _ _ D.zT.symm hT3⟩ (hI1.at fun o e => up _ _ D.zI.symm D.IT (up2 _ _ e)) hR6 hs6 fun c o c1 c2 c3 e => up c o c1 c2 (up2 _ _ (s1.extBut _ _ c3 e))
/-- the first turn: x and y come -/
theorem next_first {k : Nat} {x y a b : Value} {Q : Value → Shared → Prop} (D : Apart z I TO l) (hz0 : IsPw s.heap z I TO .none (rawInt 0)) (hT0 : IsPair s.heap TO a b) (hI0 : s.heap.IsListIter I l k) (hl0 : s.heap.IsList l its) (hx : its[k]? = some x) (hy : its[k + 1]? = some y)
    (q : ∀ h', IsPw h' z I TO (rawInt s.heap.objs.size) y → (∃ a b, IsPair h' TO a b) → h'.IsListIter I l (k + 1 + 1) → IsPair h' s.heap.objs.size x y → h'.objs.size = s.heap.objs.size + 1 →
      (∀ c o, c ≠ z → c ≠ TO → c ≠ I → s.heap.get? c = some o → h'.get? c = some o) → Q (.ref s.heap.objs.size) { s with heap := h' }) :
    wpAny (model P w) A (Builtin.«itertools.pairwise.__next__» ⟨[.ref z], []⟩) (fun fin s' => ∃ v, fin = .done (.ret v) ∧ Q v s') E s := by
  unfold Builtin.«itertools.pairwise.__next__»
  refine wpAny_bind (wpAny_pure ?_)
  refine wpAny_bind (wpAny_field hz0 rfl (x := .ref I) rfl ?_)
  dsimp only
  refine wp_if_neg (show ¬ ((Value.ref I == Value.none) = true) from Bool.false_ne_true) ?_
  refine wpAny_bind (wpAny_field hz0 rfl (x := rawInt 0) rfl ?_)
  refine wp_if_pos (show (rawInt 0 == Builtin.Itertools.itNothing) = true by decide) ?_
  refine wpAny_bind (wpAny_rule ?_)
  refine wpAny_bind (wpAny_tryCatch (raw_item hI0 hl0 hx fun h0 hI s0 => ?_))
  have hza := s0.extBut _ _ D.zI hz0
  have hTa := s0.extBut _ _ D.IT.symm hT0
  refine wpAny_bind (wpAny_setField_rec hza (by simp) fun hb hz sb => ?_)
  replace hz : IsPw hb z I TO .none x := hz
  have hT : IsPair hb TO a b := sb.extBut _ _ D.zT.symm hTa
  replace hI : hb.IsListIter I l (k + 1) := hI.extBut sb.extBut D.zI.symm
  have hl : hb.IsList l its := (hl0.extBut s0.extBut D.Il.symm).extBut sb.extBut D.zl.symm
  have hszb : hb.objs.size = s.heap.objs.size := by rw [sb.1, s0.1]
  have upb : ∀ c o, c ≠ z → c ≠ I → s.heap.get? c = some o → hb.get? c = some o := fun c o c1 c2 e => sb.extBut _ _ c1 (s0.extBut _ _ c2 e)
  obtain ⟨sB, esB⟩ : ∃ sB : Shared, sB = { s with heap := hb } := ⟨_, rfl⟩
  have eH : sB.heap = hb := by rw [esB]
  rw [← esB]
  rw [← eH] at hz hT hI hl hszb upb
  refine wpAny_bind (wpAny_field hz rfl (x := .ref I) rfl ?_)
  refine wp_if_neg (show ¬ ((Value.ref I == Value.none) = true) from Bool.false_ne_true) ?_
  refine wpAny_bind (wpAny_field hz rfl (x := x) rfl ?_)
  refine wpAny_bind (wpAny_holding (wpAny_tryCatch (raw_item hI hl hy fun h1 hI1 s1 => ?_)))
  have hz1 := s1.extBut _ _ D.zI hz
  have hT1 := s1.extBut _ _ D.IT.symm hT
  refine wpAny_bind (wpAny_holding (wpAny_newTuple ?_))
  have hzlt : z < h1.objs.size := Heap.lt_size hz1
  have hTlt : TO < h1.objs.size := Heap.lt_size hT1
  have hIlt : I < h1.objs.size := by obtain ⟨_, e, _⟩ := hI1; exact Heap.lt_size e
  have hsz : h1.objs.size = s.heap.objs.size := s1.1.trans hszb
  obtain ⟨h2, e2⟩ : ∃ h2, h2 = h1.push { cls := .type "tuple", data := .seq #[x, y] } := ⟨_, rfl⟩
  have up2 : ∀ c o, h1.get? c = some o → h2.get? c = some o := fun c o e => by rw [e2]; exact Heap.get?_push_of_some _ e
  have hR2 : IsPair h2 h1.objs.size x y := by rw [e2]; exact Heap.get?_push_size _ rfl
  have hz2 : IsPw h2 z I TO .none x := up2 _ _ hz1
  have hT2 : IsPair h2 TO a b := up2 _ _ hT1
  have hs2 : h2.objs.size = h1.objs.size + 1 := by rw [e2]; exact Heap.size_push ..
  show wpAny _ _ _ _ _ { sB with heap := h1.push { cls := .type "tuple", data := .seq #[x, y] } }
  rw [← e2]
  refine wpAny_bind ?_
  unfold Builtin.Itertools.itOwnedIsFree
  refine wpAny_bind (wpAny_field hz2 rfl (x := .none) rfl (wpAny_pure ?_))
  refine wp_if_pos rfl ?_
  refine wpAny_bind (wpAny_rule ?_)
  refine wpAny_bind (wpAny_field hz2 rfl (x := .ref TO) rfl ?_)
  dsimp only
  refine wpAny_bind ?_
  unfold Builtin.Itertools.itPoolItems
  refine wpAny_bind (wpAny_seqItems hT2 rfl (wpAny_pure ?_))
  refine wpAny_bind (wpAny_updateSeq hT2 rfl ?_)
  obtain ⟨h3, e3⟩ : ∃ h3, h3 = h2.update TO (Obj.mapSeq fun _ => #[x, y]) := ⟨_, rfl⟩
  have s3 : Heap.SameBut TO h2 h3 := by rw [e3]; exact Heap.SameBut.update ..
  have hT3 : ∃ a b, IsPair h3 TO a b := ⟨x, y, by
    rw [e3]
    show (h2.update TO (Obj.mapSeq fun _ => #[x, y])).get? TO = _
    rw [Heap.get?_update_self _ hT2 rfl]
    rfl⟩
  show wpAny _ _ _ _ _ { sB with heap := h2.update TO (Obj.mapSeq fun _ => #[x, y]) }
  rw [← e3]
  have hz3 : IsPw h3 z I TO .none x := s3.extBut _ _ D.zT hz2
  refine wpAny_bind ?_
  unfold Builtin.Itertools.itOwnedHandOut
  dsimp only
  refine wpAny_bind (wpAny_setField_rec hz3 (by simp) fun h4 hz4 s4 => ?_)
  replace hz4 : IsPw h4 z I TO (rawInt h1.objs.size) x := hz4
  refine wpAny_setField_rec hz4 (by simp) fun h5 hz5 s5 => ?_
  replace hz5 : IsPw h5 z I TO (rawInt h1.objs.size) x := hz5
  refine wpAny_bind (wpAny_setField_rec hz5 (by simp) fun h6 hz6 s6 => ?_)
  replace hz6 : IsPw h6 z I TO (rawInt h1.objs.size) y := hz6
  refine wpAny_bind (wpAny_letGo (wpAny_pure ⟨_, rfl, ?_⟩))
  have up : ∀ c o, c ≠ z → c ≠ TO → h2.get? c = some o → h6.get? c = some o := fun c o c1 c2 e => s6.extBut _ _ c1 (s5.extBut _ _ c1 (s4.extBut _ _ c1 (s3.extBut _ _ c2 e)))
  have hs6 : h6.objs.size = h1.objs.size + 1 := by rw [s6.1, s5.1, s4.1, s3.1, hs2]
  have upz : ∀ c o, c ≠ z → h3.get? c = some o → h6.get? c = some o := fun c o c1 e => s6.extBut _ _ c1 (s5.extBut _ _ c1 (s4.extBut _ _ c1 e))
  have nz : h1.objs.size ≠ z := Nat.ne_of_gt hzlt
  have nT : h1.objs.size ≠ TO := Nat.ne_of_gt hTlt
  have hR6 : IsPair h6 h1.objs.size x y := up _ _ nz nT hR2
  rw [hsz] at hz6 hR6 hs6
  show Q (.ref h1.objs.size) _
  rw [hsz]
  obtain ⟨ta, tb, hT3⟩ := hT3
  have eS : ({ sB with heap := h6 } : Shared) = { s with heap := h6 } := by rw [esB]
  rw [eS]
  exact q h6 hz6 ⟨ta, tb, upz _ _ D.zT.symm hT3⟩ (hI1.at fun o e => up _ _ D.zI.symm D.IT (up2 _ _ e)) hR6 hs6 fun c o c1 c2 c3 e => up c o c1 c2 (up2 _ _ (s1.extBut _ _ c3 (upb c o c1 c3 e)))
/-- no more -/
theorem next_none {k : Nat} {x : Value} {Q : Fin → Shared → Prop} (hh : A.handled = none) (D : Apart z I TO l) (hz : IsPw s.heap z I TO .none x) (hI : s.heap.IsListIter I l k) (hl : s.heap.IsList l its) (hno : its[k]? = none ∨ ((x == rawInt 0) = true ∧ its[k + 1]? = none))
    (q : ∀ h' e, (∀ c o, c ≠ z → c ≠ TO → c ≠ I → s.heap.get? c = some o → h'.get? c = some o) → (∃ o, h'.get? e = some o ∧ o.cls = .type "StopIteration") → E (.ref e) { s with heap := h' }) :
    wpAny (model P w) A (Builtin.«itertools.pairwise.__next__» ⟨[.ref z], []⟩) Q E s := by
  unfold Builtin.«itertools.pairwise.__next__»
  refine wpAny_bind (wpAny_pure ?_)
  refine wpAny_bind (wpAny_field hz rfl (x := .ref I) rfl ?_)
  dsimp only
  refine wp_if_neg (show ¬ ((Value.ref I == Value.none) = true) from Bool.false_ne_true) ?_
  refine wpAny_bind (wpAny_field hz rfl (x := x) rfl ?_)
  -- what a walk that has ended does
  have stop : ∀ (s2 : Shared) (x2 : Value) (h3 : Heap) (e : Addr), IsPw s2.heap z I TO .none x2 → Heap.ExtBut I s2.heap h3 → (∃ o, h3.get? e = some o ∧ o.cls = .type "StopIteration") →
      (∀ h', (∀ c o, c ≠ z → c ≠ TO → c ≠ I → s2.heap.get? c = some o → h'.get? c = some o) → (∃ o, h'.get? e = some o ∧ o.cls = .type "StopIteration") → E (.ref e) { s2 with heap := h' }) → True := fun _ _ _ _ _ _ _ _ => trivial
  by_cases h0 : (x == rawInt 0) = true
  · refine wp_if_pos h0 ?_
    refine wpAny_bind (wpAny_rule ?_)
    cases hk : its[k]? with
    | none =>
      refine wpAny_bind (wpAny_tryCatch (raw_end hh hI hl hk fun h1 e s1 he => ?_))
      obtain ⟨oe, hoe, hce⟩ := he
      have hz1 : IsPw h1 z I TO .none x := s1 _ _ D.zI hz
      have hez : e ≠ z := fun y => by subst y; rw [hz1] at hoe; cases hoe; simp at hce
      refine wpAny_bind (wpAny_bind (wpAny_field hz1 rfl (x := x) rfl ?_))
      refine wpAny_bind (wpAny_setField_rec hz1 (by simp) fun h2 hz2 s2 => ?_)
      refine wpAny_bind (wpAny_setField_rec hz2 (by simp) fun h3 hz3 s3 => ?_)
      refine wpAny_letGo (wpAny_throw ?_)
      exact q h3 e (fun c o c1 c2 c3 y => s3.extBut _ _ c1 (s2.extBut _ _ c1 (s1 _ _ c3 y))) ⟨oe, s3.extBut _ _ hez (s2.extBut _ _ hez hoe), hce⟩
    | some y0 =>
      have hk1 : its[k + 1]? = none := by
        rcases hno with z | ⟨_, z⟩
        · rw [hk] at z; cases z
        · exact z
      refine wpAny_bind (wpAny_tryCatch (raw_item hI hl hk fun h1 hI1 s1 => ?_))
      have hz1 : IsPw h1 z I TO .none x := s1.extBut _ _ D.zI hz
      have hl1 := hl.extBut s1.extBut D.Il.symm
      refine wpAny_bind (wpAny_setField_rec hz1 (by simp) fun h2 hz2 s2 => ?_)
      replace hz2 : IsPw h2 z I TO .none y0 := hz2
      have hI2 : h2.IsListIter I l (k + 1) := hI1.extBut s2.extBut D.zI.symm
      have hl2 := hl1.extBut s2.extBut D.zl.symm
      refine wpAny_bind (wpAny_field hz2 rfl (x := .ref I) rfl ?_)
      refine wp_if_neg (show ¬ ((Value.ref I == Value.none) = true) from Bool.false_ne_true) ?_
      refine wpAny_bind (wpAny_field hz2 rfl (x := y0) rfl ?_)
      refine wpAny_bind (wpAny_holding (wpAny_tryCatch (raw_end (s := { s with heap := h2 }) hh hI2 hl2 hk1 fun h3 e s3 he => ?_)))
      obtain ⟨oe, hoe, hce⟩ := he
      have hz3 : IsPw h3 z I TO .none y0 := s3 _ _ D.zI hz2
      have hez : e ≠ z := fun y => by subst y; rw [hz3] at hoe; cases hoe; simp at hce
      refine wpAny_bind (wpAny_bind (wpAny_field hz3 rfl (x := y0) rfl ?_))
      refine wpAny_bind (wpAny_setField_rec hz3 (by simp) fun h4 hz4 s4 => ?_)
      refine wpAny_bind (wpAny_setField_rec hz4 (by simp) fun h5 hz5 s5 => ?_)
      refine wpAny_letGo (wpAny_throw ?_)
      exact q h5 e (fun c o c1 c2 c3 y => s5.extBut _ _ c1 (s4.extBut _ _ c1 (s3 _ _ c3 (s2.extBut _ _ c1 (s1.extBut _ _ c3 y))))) ⟨oe, s5.extBut _ _ hez (s4.extBut _ _ hez hoe), hce⟩
  · refine wp_if_neg h0 ?_
    have hk : its[k]? = none := hno.resolve_right fun y => h0 y.1
    refine wpAny_bind (wpAny_field hz rfl (x := x) rfl ?_)
    refine wpAny_bind (wpAny_holding (wpAny_tryCatch (raw_end hh hI hl hk fun h1 e s1 he => ?_)))
    obtain ⟨oe, hoe, hce⟩ := he
    have hz1 : IsPw h1 z I TO .none x := s1 _ _ D.zI hz
    have hez : e ≠ z := fun y => by subst y; rw [hz1] at hoe; cases hoe; simp at hce
    refine wpAny_bind (wpAny_bind (wpAny_field hz1 rfl (x := x) rfl ?_))
    refine wpAny_bind (wpAny_setField_rec hz1 (by simp) fun h2 hz2 s2 => ?_)
    refine wpAny_bind (wpAny_setField_rec hz2 (by simp) fun h3 hz3 s3 => ?_)
    refine wpAny_letGo (wpAny_throw ?_)
    exact q h3 e (fun c o c1 c2 c3 y => s3.extBut _ _ c1 (s2.extBut _ _ c1 (s1 _ _ c3 y))) ⟨oe, s3.extBut _ _ hez (s2.extBut _ _ hez hoe), hce⟩
end
end PW2

namespace PW2
open PySem PySem.Spec PyProof.Rows L2
section
variable {P : Program} {w : World} {A : Around} {E : Value → Shared → Prop} {s : Shared} {z I TO l : Addr} {its : Array Value}
theorem typeIs {f0 old : Value} (hz : IsPw s.heap z I TO f0 old) : s.TypeIs (.ref z) "itertools.pairwise" := ⟨_, hz, rfl⟩
/-- where the list's own walk stands -/
def at_ (i : Nat) : Nat := if i = 0 then 0 else i + 1
theorem at_pos {i : Nat} (h : 1 ≤ i) : at_ i = i + 1 := if_neg (by omega)
theorem pyNext_first {x y a b : Value} {Q : Option Value → Shared → Prop} (D : Apart z I TO l) (hz : IsPw s.heap z I TO .none (rawInt 0)) (hT : IsPair s.heap TO a b) (hI : s.heap.IsListIter I l 0) (hl : s.heap.IsList l its) (hx : its[0]? = some x) (hy : its[1]? = some y)
    (q : ∀ h', IsPw h' z I TO (rawInt s.heap.objs.size) y → (∃ a b, IsPair h' TO a b) → h'.IsListIter I l 2 → IsPair h' s.heap.objs.size x y → h'.objs.size = s.heap.objs.size + 1 →
      (∀ c o, c ≠ z → c ≠ TO → c ≠ I → s.heap.get? c = some o → h'.get? c = some o) → Q (some (.ref s.heap.objs.size)) { s with heap := h' }) : wpAny (model P w) A (pyNext (.ref z)) Q E s := by
  unfold pyNext
  refine wpAny_bind (wpAny_attempt (wpAny_callSpecial?_slot (name := Str.ofString "__next__") (typeIs hz) slot_next (wpAny_call_entry slot_next (typeIs hz) entry_next ?_ (args_next _))))
  exact next_first D hz hT hI hl hx hy fun h' a1 a2 a3 a4 a5 a6 => wpAny_pure (q h' a1 a2 a3 a4 a5 a6)
theorem pyNext_later {k : Nat} {x y a b : Value} {Q : Option Value → Shared → Prop} (D : Apart z I TO l) (hz : IsPw s.heap z I TO .none x) (hno : (x == rawInt 0) = false) (hT : IsPair s.heap TO a b) (hI : s.heap.IsListIter I l k) (hl : s.heap.IsList l its) (hy : its[k]? = some y)
    (q : ∀ h', IsPw h' z I TO (rawInt s.heap.objs.size) y → (∃ a b, IsPair h' TO a b) → h'.IsListIter I l (k + 1) → IsPair h' s.heap.objs.size x y → h'.objs.size = s.heap.objs.size + 1 →
      (∀ c o, c ≠ z → c ≠ TO → c ≠ I → s.heap.get? c = some o → h'.get? c = some o) → Q (some (.ref s.heap.objs.size)) { s with heap := h' }) : wpAny (model P w) A (pyNext (.ref z)) Q E s := by
  unfold pyNext
  refine wpAny_bind (wpAny_attempt (wpAny_callSpecial?_slot (name := Str.ofString "__next__") (typeIs hz) slot_next (wpAny_call_entry slot_next (typeIs hz) entry_next ?_ (args_next _))))
  exact next_later D hz hno hT hI hl hy fun h' a1 a2 a3 a4 a5 a6 => wpAny_pure (q h' a1 a2 a3 a4 a5 a6)
theorem pyNext_none {k : Nat} {old : Value} {Q : Option Value → Shared → Prop} (hh : A.handled = none) (D : Apart z I TO l) (hz : IsPw s.heap z I TO .none old) (hI : s.heap.IsListIter I l k) (hl : s.heap.IsList l its) (hno : its[k]? = none ∨ ((old == rawInt 0) = true ∧ its[k + 1]? = none))
    (q : ∀ h', (∀ c o, c ≠ z → c ≠ TO → c ≠ I → s.heap.get? c = some o → h'.get? c = some o) → Q none { s with heap := h' }) : wpAny (model P w) A (pyNext (.ref z)) Q E s := by
  unfold pyNext
  refine wpAny_bind (wpAny_attempt (wpAny_callSpecial?_slot (name := Str.ofString "__next__") (typeIs hz) slot_next (wpAny_call_entry slot_next (typeIs hz) entry_next (next_none hh D hz hI hl hno fun h' e hk he => ?_) (args_next _))))
  obtain ⟨o, ho, hc⟩ := he
  refine wpAny_bind (wpAny_isInstance (T := "StopIteration") (b := true) ⟨o, ho, hc⟩ isSubtype_stop ?_)
  exact wpAny_pure (q _ hk)
theorem letGo_pw {elts : List Expr} {x1} {pos : Pos} {T : Addr} {old : Value} {Q : Unit → Shared → Prop} (hz : IsPw s.heap z I TO (rawInt T) old) (q : ∀ h', IsPw h' z I TO .none old → Heap.SameBut z s.heap h' → Q () { s with heap := h' }) :
    wpAny (model P w) A (letOwnedTupleGo (.Tuple elts x1 pos) (.ref z) (.ref T)) Q E s := by
  unfold letOwnedTupleGo
  refine wpAny_bind (wpAny_load hz ?_)
  refine wp_if_pos (by simp) ?_
  refine wpAny_bind (wpAny_rule ?_)
  show wpAny _ _ (setField (.ref z) 0 .none) Q E s
  exact wpAny_setField_rec hz (by simp) fun h' hz' hs' => q h' hz' hs'
theorem iter_pw {f0 old : Value} {Q : Value → Shared → Prop} (hz : IsPw s.heap z I TO f0 old) (q : Q (.ref z) s) : wpAny (model P w) A (pyIter (.ref z)) Q E s := by
  refine wpAny_pyIter_slot (typeIs hz) slot_iter (wpAny_call_entry slot_iter (typeIs hz) entry_iter ?_ (args_iter _))
  show wpAny _ _ (ret (.ref z)) _ _ s
  exact wpAny_pure ⟨_, rfl, "itertools.pairwise", _, typeIs hz, slot_next.lookup, q⟩
end
abbrev pwH1 (h : Heap) (l : Addr) : Heap := h.push { cls := .type "list_iterator", data := .fields #[.ref l, .int 0 0] }
abbrev pwH2 (h : Heap) (l : Addr) : Heap := (pwH1 h l).push { cls := .type "tuple", data := .seq #[.none, .none] }
abbrev pwH3 (h : Heap) (l : Addr) : Heap := (pwH2 h l).push { cls := .type "itertools.pairwise", data := .fields #[.none, .bool false, .ref h.objs.size, rawInt 0, .ref (pwH1 h l).objs.size] }
theorem meets_new (l : Addr) (its : Array Value) : Meets (Builtin.«itertools.pairwise.__new__» ⟨[.type "itertools.pairwise", .ref l], []⟩) (fun _ R s => s.heap.IsList l its ∧
      R (.ok (.ret (.ref (pwH2 s.heap l).objs.size))) { s with heap := pwH3 s.heap l }) :=
  .of_wp fun prog w A R s h => by
    obtain ⟨hp, g, d, tk, os⟩ := s
    obtain ⟨hl, h⟩ := h
    have hsub := sub_self
    have hL : Heap.IsList (Shared.heap ⟨hp, g, d, tk, os⟩) l its := hl
    have hname : ("itertools." ++ "pairwise" : String) = "itertools.pairwise" := by decide +kernel
    have hsub2 : isSubtype (.type "itertools.pairwise") (.type ("itertools." ++ "pairwise")) = pure true := by rw [hname]; exact hsub
    have hI : ∀ {A' : Around} {E' : Value → Shared → Prop} {Q' : Value → Shared → Prop}, Q' (.ref hp.objs.size) ⟨pwH1 hp l, g, d, tk, os⟩ → wpAny (model prog w) A' (pyIter ([Value.ref l].headD Value.none)) Q' E' ⟨hp, g, d, tk, os⟩ := fun q => wpAny_pyIter_list hL q
    wp_walk using hI
    exact ⟨_, rfl, h⟩
end PW2
namespace PW2
open PySem PySem.Spec PyProof.Rows L2
section
variable {P : Program} {w : World} {A : Around} {E : Value → Shared → Prop} {s : Shared}
theorem call_pw {l : Addr} {its : Array Value} {Q : Value → Shared → Prop} (hl : s.heap.IsList l its)
    (q : ∀ h', IsPw h' (s.heap.objs.size + 2) s.heap.objs.size (s.heap.objs.size + 1) .none (rawInt 0) → IsPair h' (s.heap.objs.size + 1) .none .none → h'.IsListIter s.heap.objs.size l 0 → h'.objs.size = s.heap.objs.size + 3 →
      (∀ c o, s.heap.get? c = some o → h'.get? c = some o) → Q (.ref (s.heap.objs.size + 2)) { s with heap := h' }) : wpAny (model P w) A (call (.type "itertools.pairwise") [.ref l]) Q E s := by
  refine callType_new called (by decide) (typeCall _) (newCall _) (fun obj => args_init obj _) entry_new (meets_new l its) ⟨hl, ?_⟩
  have z1 : (pwH1 s.heap l).objs.size = s.heap.objs.size + 1 := Heap.size_push ..
  have z2 : (pwH2 s.heap l).objs.size = s.heap.objs.size + 2 := by rw [Heap.size_push, z1]
  have z3 : (pwH3 s.heap l).objs.size = s.heap.objs.size + 3 := by rw [Heap.size_push, z2]
  have g3 : (pwH3 s.heap l).get? (pwH2 s.heap l).objs.size = some _ := Heap.get?_push_size _ rfl
  have g2 : (pwH3 s.heap l).get? (pwH1 s.heap l).objs.size = some _ := Heap.get?_push_of_some _ (Heap.get?_push_size _ rfl)
  have g1 : (pwH3 s.heap l).get? s.heap.objs.size = some _ := Heap.get?_push_of_some _ (Heap.get?_push_of_some _ (Heap.get?_push_size _ rfl))
  show _ ∧ _
  rw [z1, z2] at g3
  rw [z1] at g2
  rw [z2]
  exact ⟨⟨_, g3, rfl⟩, q _ g3 g2 ⟨_, g1, rfl, rfl⟩ z3 fun c o x => Heap.get?_push_of_some _ (Heap.get?_push_of_some _ (Heap.get?_push_of_some _ x))⟩
end
/-- the list at a as it stands, each item and the one behind it in a new pair -/
def ItPw (K : PySem.W.Frag) (a : Addr) (ns : List Int) : It :=
  ⟨fun i H => SqL K H a (ns.map V.int) ∧ i + 1 < ns.length,
    fun i H v H' => ∃ T x y, v = .ref T ∧ H T = none ∧ H' = upd H T (.tup [.int x, .int y]) ∧ ns[i]? = some x ∧ ns[i + 1]? = some y,
    fun i H => SqL K H a (ns.map V.int) ∧ ns.length ≤ i + 1⟩
theorem raw_ne {k : Int} {t : Tok} (h : k ≠ 0) : (Value.int k t == rawInt 0) = false := by
  cases e : (Value.int k t == rawInt 0) with
  | false => rfl
  | true =>
    have := eq_of_beq e
    have e2 : Value.int k t = Value.int 0 0 := this
    injection e2 with e3 _
    exact absurd e3 h
/-- what the walk holds back, told by the numbers -/
def Held (ns : List Int) (i : Nat) (old : Value) : Prop := (i = 0 ∧ old = rawInt 0) ∨ (1 ≤ i ∧ ∃ k t, ns[i]? = some k ∧ old = .int k t)
theorem turn_pw {P : Program} {w : World} {K : PySem.W.Frag} {elts : List Expr} {kk : Nat} {tpos : Pos} {a z I TO : Addr} {ns : List Int} (D : Apart z I TO a) (pos : ∀ n ∈ ns, n ≠ 0) :
    Turn P w K (.Tuple elts kk tpos) (ItPw K a ns) [z, TO, I] z (fun i h => ∃ old, IsPw h z I TO .none old ∧ (∃ x y, IsPair h TO x y) ∧ h.IsListIter I a (at_ i) ∧ Held ns i old) where
  mem := by simp
  obj := fun i h st c hc => by
    obtain ⟨old, hz, ⟨x, y, hT⟩, ⟨o1, e1, _, d1⟩, _⟩ := st
    have e' : c = z ∨ c = TO ∨ c = I := by simpa using hc
    rcases e' with q | q | q
    · rw [q]; exact ⟨_, hz, fun v q => nomatch q⟩
    · rw [q]; exact ⟨_, hT, fun v q => nomatch q⟩
    · rw [q]; exact ⟨o1, e1, fun v q => by rw [d1] at q; cases q⟩
  keep := fun i h h' st k => by
    obtain ⟨old, hz, ⟨x, y, hT⟩, hI, hO⟩ := st
    exact ⟨old, k z (by simp) _ hz, ⟨x, y, k TO (by simp) _ hT⟩, hI.at fun o q => k I (by simp) o q, hO⟩
  item := by
    intro X hP hw hK hc i pins s σ H E Iv hf st hg
    subst hP hw hK
    obtain ⟨old, hz, ⟨x0, y0, hT⟩, hI, hO⟩ := st
    obtain ⟨hq, hlt⟩ := hg
    obtain ⟨its, rv, pl, _⟩ := Iv.list hq
    have lrv := rv.length
    rw [List.length_map] at lrv
    have hzl : z < s.heap.objs.size := Heap.lt_size hz
    have hTl : TO < s.heap.objs.size := Heap.lt_size hT
    have hIl : I < s.heap.objs.size := by obtain ⟨_, e, _⟩ := hI; exact Heap.lt_size e
    have get : ∀ {j : Nat} (h : j < ns.length), ∃ t, its.toArray[j]? = some (.int ns[j] t) := fun {j} h => by
      obtain ⟨u, hu, ru⟩ := rv.get (i := j) (x := .int ns[j]) (by rw [List.getElem?_map, List.getElem?_eq_getElem h]; rfl)
      obtain ⟨t, rfl⟩ := ru
      exact ⟨t, by simpa using hu⟩
    obtain ⟨ty, hy⟩ := get hlt
    -- what stands behind either way of the step
    have fin : ∀ (h' : Heap) (tx : Tok), IsPw h' z I TO (rawInt s.heap.objs.size) (.int ns[i + 1] ty) → (∃ a b, IsPair h' TO a b) → h'.IsListIter I a (i + 1 + 1) → IsPair h' s.heap.objs.size (.int ns[i] tx) (.int ns[i + 1] ty) → h'.objs.size = s.heap.objs.size + 1 →
        (∀ c o, c ≠ z → c ≠ TO → c ≠ I → s.heap.get? c = some o → h'.get? c = some o) →
        ∃ u, some (Value.ref s.heap.objs.size) = some u ∧ wpAny (model X.prog X.w) X.A (letOwnedTupleGo (.Tuple elts kk tpos) (.ref z) u) (fun _ s2 => ∃ x H', Inv X pins σ H' s2 ∧ RelV x u ∧ (ItPw X.K a ns).yld i H x H' ∧
          (∃ old, IsPw s2.heap z I TO .none old ∧ (∃ x y, IsPair s2.heap TO x y) ∧ s2.heap.IsListIter I a (at_ (i + 1)) ∧ Held ns (i + 1) old) ∧ ∀ b ∈ [z, TO, I], H' b = none) E { s with heap := h' } := by
      intro h' tx z' T' I' R' hsz hk
      refine ⟨_, rfl, letGo_pw (s := { s with heap := h' }) z' fun h'' z'' sb => ?_⟩
      have hR2 : h''.get? s.heap.objs.size = some { cls := .type "tuple", data := .seq #[.int ns[i] tx, .int ns[i + 1] ty] } := (sb.2 _ (Nat.ne_of_gt hzl)).trans R'
      have new : ObjOk X.prog X.w (upd H s.heap.objs.size (.tup [.int ns[i], .int ns[i + 1]])) h'' s.heap.objs.size (.tup [.int ns[i], .int ns[i + 1]]) :=
        ⟨by show 2 ≤ sizeLine; decide, [.int ns[i] tx, .int ns[i + 1] ty], .cons ⟨tx, rfl⟩ (.cons ⟨ty, rfl⟩ .nil), ⟨_, hR2, rfl, _, rfl⟩⟩
      have I1 : Inv X pins σ (upd H s.heap.objs.size (.tup [.int ns[i], .int ns[i + 1]])) { s with heap := h'' } :=
        Iv.turnedNew (t' := s.toks) (ch := [z, TO, I]) (fun c o hb q => (sb.2 c (fun q' => hb (by simp [q']))).trans (hk c o (fun q' => hb (by simp [q'])) (fun q' => hb (by simp [q'])) (fun q' => hb (by simp [q'])) q)) hf (Nat.le_refl _) new
      obtain ⟨ta, tb, hT'⟩ := T'
      refine ⟨.ref s.heap.objs.size, _, I1, rfl, ⟨_, ns[i], ns[i + 1], rfl, Iv.hok.fresh (Nat.le_refl _), rfl, List.getElem?_eq_getElem (by omega), List.getElem?_eq_getElem hlt⟩, ⟨_, z'', ⟨ta, tb, (sb.2 _ D.zT.symm).trans hT'⟩, ?_, .inr ⟨by omega, _, _, List.getElem?_eq_getElem hlt, rfl⟩⟩, fun c hcm => ?_⟩
      · rw [at_pos (by omega)]
        exact I'.at fun o q => (sb.2 _ D.zI.symm).trans q
      · have hlt' : c < s.heap.objs.size := by
          have e' : c = z ∨ c = TO ∨ c = I := by simpa using hcm
          rcases e' with q | q | q
          · rw [q]; exact hzl
          · rw [q]; exact hTl
          · rw [q]; exact hIl
        rw [upd_ne (Nat.ne_of_lt hlt')]
        exact (hf c hcm).1
    rcases hO with ⟨rfl, rfl⟩ | ⟨h1, k, t, hk, rfl⟩
    · obtain ⟨tx, hx⟩ := get (j := 0) (by omega)
      exact pyNext_first D hz hT hI pl.isList hx hy fun h' a1 a2 a3 a4 a5 a6 => fin h' tx a1 a2 a3 a4 a5 a6
    · rw [at_pos h1] at hI
      have ek : ns[i] = k := by
        rw [List.getElem?_eq_getElem (by omega)] at hk
        exact Option.some.inj hk
      subst ek
      exact pyNext_later D hz (raw_ne (pos _ (List.getElem_mem _))) hT hI pl.isList hy fun h' a1 a2 a3 a4 a5 a6 => fin h' t a1 a2 a3 a4 a5 a6
  done := by
    intro X hP hw hK hc i pins s σ H E Iv hf st hg
    subst hP hw hK
    obtain ⟨old, hz, ⟨x0, y0, hT⟩, hI, hO⟩ := st
    obtain ⟨hq, hend⟩ := hg
    obtain ⟨its, rv, pl, _⟩ := Iv.list hq
    have lrv := rv.length
    rw [List.length_map] at lrv
    refine pyNext_none (Iv.ok.hd hc) D hz hI pl.isList ?_ fun h' hk => ⟨rfl, Iv.turnedL (t' := s.toks) (ch := [z, TO, I]) (fun c o hb q => hk c o (fun q' => hb (by simp [q'])) (fun q' => hb (by simp [q'])) (fun q' => hb (by simp [q'])) q) hf⟩
    rcases hO with ⟨rfl, rfl⟩ | ⟨h1, k, t, hk, rfl⟩
    · exact .inr ⟨by decide, by show its.toArray[0 + 1]? = none; simp; omega⟩
    · left
      rw [at_pos h1]
      simp
      omega
  self := fun A i s Q E st h => iter_pw st.choose_spec.1 h
def iPw (K : PySem.W.Frag) (ta : TA) : TI := fun σ H R => ta σ H fun vs H1 => ∃ a ns, vs = [.ref a] ∧ SqL K H1 a (ns.map V.int) ∧ (∀ n ∈ ns, n ≠ 0) ∧ R (ItPw K a ns) H1
theorem pi_pw {X : Cx} {e : Expr} {ta : TA} {p pos tpos : Pos} {elts : List Expr} {kk : Nat} {x : Str} (hg : Gl X x) (hm : X.mg x = some (.type "itertools.pairwise")) (ha : PA X [e] ta) (hdb : (x == ("__debug__" : Str)) = false := by decide)
    (hs : starEach [e] X.env = (false, eval e X.env) :: starEach [] X.env := by rfl) (hpl : (backTo pos (starEach [] X.env)).any (·.1) = false := by rfl) :
    PI X (.Tuple elts kk tpos) (.Call (.Name x p) [e] [] pos) (iPw X.K ta) := by
  refine ⟨fun pins s σ H R I h => ?_⟩
  refine Call_ (ld_glob I hg hm (PyProof.Rows.callWith_type1 (thn (ha.run pos pins s σ H _ I h) fun us s1 ⟨vs, H1, I1, r1, q1⟩ => ?_) hs hpl) hdb)
  obtain ⟨a, ns, ex, hq, hpos, q⟩ := q1
  subst ex
  cases r1 with
  | cons r rr =>
    cases rr
    cases r
    obtain ⟨its, rv, pl, _⟩ := I1.list hq
    refine call_pw pl.isList fun h' hz hT hI hsz hk => iter_pw hz ?_
    have I2 : Inv X pins σ H1 { s1 with heap := h' } := I1.kept (t' := s1.toks) hk
    have la : a < s1.heap.objs.size := pl.lt
    have D : Apart (s1.heap.objs.size + 2) s1.heap.objs.size (s1.heap.objs.size + 1) a := ⟨Nat.ne_of_gt (Nat.lt_add_of_pos_right (by decide)), Nat.ne_of_gt (Nat.lt_succ_self _), Nat.ne_of_gt (Nat.lt_add_right 2 la), Nat.ne_of_lt (Nat.lt_succ_self _), Nat.ne_of_gt la, Nat.ne_of_gt (Nat.lt_add_right 1 la)⟩
    have fresh : ∀ c, c ∈ [s1.heap.objs.size + 2, s1.heap.objs.size + 1, s1.heap.objs.size] → FpOk X pins H1 c := fun c hcm => by
      have hle : s1.heap.objs.size ≤ c := by
        have e' : c = s1.heap.objs.size + 2 ∨ c = s1.heap.objs.size + 1 ∨ c = s1.heap.objs.size := by simpa using hcm
        omega
      exact I1.fpOk hle (I1.hok.fresh hle)
    exact ⟨s1.heap.objs.size + 2, [s1.heap.objs.size + 2, s1.heap.objs.size + 1, s1.heap.objs.size], _, _, H1, rfl, I2, turn_pw D hpos, ⟨_, hz, ⟨_, _, hT⟩, hI, .inl ⟨rfl, rfl⟩⟩, fresh, q⟩
/-- a loop over pairwise of a list of numbers -/
theorem for_pw {K : PySem.W.Frag} {a : Addr} {ns : List Int} {g : TG} {tb : TS} {D : Ends} {σ : L2.St} {H : Hp} (Pv : Nat → L2.St → Hp → Prop) (h0 : Pv 0 σ H) (hq : ∀ i σ H, Pv i σ H → SqL K H a (ns.map V.int))
    (hs : ∀ (i : Nat) (x y : Int) (T : Addr) (σ : L2.St) (H : Hp), ns[i]? = some x → ns[i + 1]? = some y → Pv i σ H → H T = none → g (.ref T) σ (upd H T (.tup [.int x, .int y])) fun σ2 H2 => tb { D with nx := Pv (i + 1), ct := Pv (i + 1), bk := D.nx } σ2 H2) (hd : ∀ σ H, Pv (ns.length - 1) σ H → D.nx σ H) :
    ∃ W : Nat → Nat → L2.St → Hp → Prop, (∃ m, W 0 m σ H) ∧ ∀ i m σ H, W i m σ H →
      ((ItPw K a ns).stop i H ∧ D.nx σ H) ∨ ((ItPw K a ns).go i H ∧ ∃ N : L2.St → Hp → Prop, (∀ σ' H', N σ' H' → ∃ m', m' < m ∧ W (i + 1) m' σ' H') ∧ ∀ v H', (ItPw K a ns).yld i H v H' → g v σ H' fun σ2 H2 => tb { D with nx := N, ct := N, bk := D.nx } σ2 H2) := by
  refine ⟨fun i m σ H => m = ns.length - 1 - i ∧ i ≤ ns.length - 1 ∧ Pv i σ H, ⟨ns.length - 1, by simp, Nat.zero_le _, h0⟩, ?_⟩
  rintro i m σ H ⟨rfl, hi, p⟩
  have q := hq i σ H p
  by_cases hlt : i + 1 < ns.length
  · refine .inr ⟨⟨q, hlt⟩, Pv (i + 1), fun σ' H' p' => ⟨ns.length - 1 - (i + 1), by omega, rfl, by omega, p'⟩, fun v H' y => ?_⟩
    obtain ⟨T, x', y', rfl, hT, rfl, f1, f2⟩ := y
    exact hs i x' y' T σ H f1 f2 p hT
  · have e : i = ns.length - 1 := by omega
    subst e
    exact .inl ⟨⟨q, by omega⟩, hd σ H p⟩
end PW2

/-! set(list of ints), and it put in order -/
namespace PV3
open PySem PySem.Spec PyProof.Rows L2
open Pw (newSetObj)
section
variable {P : Program} {w : World} {A : Around} {E : Value → Shared → Prop} {s : Shared}
theorem num_at {its : Array Value} {ns : List Int} (ok : IntsAre its.toList ns) (i : Nat) (v : Value) (e : its[i]? = some v) : ∃ k t, ns[i]? = some k ∧ v = .int k t := by
  have e2 : its.toList[i]? = some v := by rw [Array.getElem?_toList, e]
  have len := ok.length
  have lt : i < ns.length := by
    rw [← len]
    exact (List.getElem?_eq_some_iff.mp e2).1
  obtain ⟨t, z⟩ := IntsAre.int_at ok i v e2
  rw [List.getD_eq_getElem?_getD, List.getElem?_eq_getElem lt] at z
  exact ⟨_, t, List.getElem?_eq_getElem lt, z⟩
/-- what is known of the heap once the numbers are in -/
def Filled (w : World) (h : Heap) (S : Addr) (ns : List Int) (h' : Heap) : Prop := ∃ c, SetR w h' S (fun j => decide (j ∈ ns)) c ∧ c ≤ ns.length ∧ ∀ b o, b ≠ S → h.get? b = some o → h'.get? b = some o
/-- a new set takes up the numbers of a list -/
theorem fill {S l : Addr} {its : Array Value} {ns : List Int} (calm : A.handled = none) (new : s.heap.get? S = some (newSetObj w)) (ne : S ≠ l) (li : s.heap.IsList l its) (ok : IntsAre its.toList ns) (few : ns.length + 1 < scanBound) :
    codeAny (model P w) A (.call (.builtin "set.__init__") ⟨[.ref S, .ref l], []⟩) (wants (fun r s2 => r = .none ∧ ∃ h' tk, s2 = { s with heap := h', toks := tk } ∧ Filled w s.heap S ns h') E) s := by
  refine codeAny_call_builtin F.called_set.init.plain F.entry_set_init (check_set_init_1 (s := s) ⟨_, new, rfl⟩ ?_)
  have lenI : its.size = ns.length := (Array.length_toList ▸ ok.length : _)
  obtain ⟨⟨c0, d0, dt0, sl0⟩, ho, hc, n0, hd⟩ := id li
  dsimp only at hc hd
  cases hc
  cases hd
  have a1 := F.sub_list_set
  have a2 := F.sub_list_frozenset
  have a3 : (Value.type "list" == Value.type "dict") = false := by decide
  unfold Builtin.«set.__init__» noKeywords Builtin.Frozenset.updateFrom
  generalize hit : pyIter = walk
  wp_walk
  subst hit
  refine wpAny_pyIter_list li (wpAny_bind (wpAny_runValue ?_))
  obtain ⟨it, eit⟩ : ∃ it, s.heap.objs.size = it := ⟨_, rfl⟩
  have ltS : S < it := eit ▸ Heap.lt_size new
  have ltl : l < it := eit ▸ Heap.lt_size ho
  have away : S ∉ [it, l] := fun m => (List.mem_cons.mp m).elim (fun e => absurd e (Nat.ne_of_lt ltS)) fun m => absurd (List.mem_singleton.mp m) ne
  have calm3 : A.in1.in1.handled = none := by simp [calm]
  rw [eit]
  refine set_update_ints (Walks.list (by simpa using calm3) it l (Nat.ne_of_lt ltl) its).toS S away ns lenI few (num_at ok) its.size 0 _ rfl (Nat.zero_le _)
    ⟨⟨_, by rw [← eit]; exact Heap.get?_push_size _ rfl, rfl, rfl⟩, li.push _⟩ ⟨0, Nat.le_refl 0, setR_new_at (Heap.get?_push_of_some _ new)⟩ fun s2 c mv hc hS => ?_
  obtain ⟨h2, g2, d2, t2, o2⟩ := s2
  cases mv.gens
  cases mv.drawn
  cases mv.os
  refine wpAny_pure (wpAny_pure ⟨rfl, h2, t2, rfl, c, hS, lenI ▸ hc, fun b o nb e => ?_⟩)
  have ltb : b < it := eit ▸ Heap.lt_size e
  refine mv.heap b o (fun m => ?_) (Heap.get?_push_of_some _ e)
  rcases List.mem_cons.mp m with q | q
  · exact nb q
  · exact absurd (List.mem_singleton.mp q) (Nat.ne_of_lt ltb)
theorem set_of_list {l : Addr} {its : Array Value} (ns : List Int) {Q : Value → Shared → Prop} (calm : A.handled = none) (li : s.heap.IsList l its) (ok : IntsAre its.toList ns) (few : ns.length + 1 < scanBound)
    (q : ∀ (h' : Heap) (tk c : Nat), SetR w h' s.heap.objs.size (fun j => decide (j ∈ ns)) c → c ≤ ns.length → (∀ b o, s.heap.get? b = some o → h'.get? b = some o) → Q (.ref s.heap.objs.size) { s with heap := h', toks := tk }) : wpAny (model P w) A (call (.type "set") [.ref l]) Q E s := by
  have ft := F.called_set
  obtain ⟨c, tl, m1⟩ := ft.mro
  have m2 := ft.made
  have m3 := ft.sub
  have m4 := ft.notType
  have m5 := ft.canCreate
  have m6 := F.typeCall_set_1 (.ref l)
  have m7 := ft.init.lookup
  have ltl : l < s.heap.objs.size := by
    obtain ⟨_, e, _⟩ := li
    exact Heap.lt_size e
  obtain ⟨s1, e1⟩ : ∃ s1 : Shared, s1 = { s with heap := s.heap.push (newSetObj w) } := ⟨_, rfl⟩
  have new : s1.heap.get? s.heap.objs.size = some (newSetObj w) := by rw [e1]; exact Heap.get?_push_size _ rfl
  have isT : s1.TypeIs (.ref s.heap.objs.size) "set" := ⟨_, new, rfl⟩
  have m8 := ft.init.bind (.ref s.heap.objs.size)
  refine wpAny_call (codeAny_of_tree (show wpAny _ _ (callAny (.type "set") _) _ _ s from ?_))
  refine (wpAny_pure ⟨Code.quiet_builtin _ (by decide +kernel), codeAny_builtin F.entry_type_call ?_⟩)
  rw [Around.under_plain (weight_type_call_type "set" [.ref l] []) rfl]
  repeat (any_goals (first | assumption | wp_step))
  refine codeAny_mono (code_set_led1 (E := E) (.ref l) (Q₁ := fun x y => x = .ref s.heap.objs.size ∧ y = s1) ⟨rfl, e1.symm⟩) fun r y z => ?_
  match r, z with
  | .error _, z => exact z
  | .ok (.ret _), ⟨hx, hy⟩ =>
    subst hx hy
    repeat (any_goals (first | assumption | wp_step))
    refine codeAny_mono (fill (E := E) (ns := ns) (s := y) (by simpa using calm) new (Nat.ne_of_gt ltl) (by rw [e1]; exact li.push _) ok few) fun r2 y2 z2 => ?_
    match r2, z2 with
    | .error _, z2 => exact z2
    | .ok (.ret _), ⟨hr, h2, t2, hy2, c2, hS, hc, hk⟩ =>
      subst hr hy2
      repeat (any_goals (first | assumption | wp_step))
      subst e1
      exact q h2 t2 c2 hS hc fun b o e => hk b o (Nat.ne_of_lt (Heap.lt_size e)) (Heap.get?_push_of_some _ e)
end
end PV3
namespace Pw
open PySem PySem.Spec PyProof.Rows L2 SX TL
/-- set(l), l a list of ints -/
def rSetLI (K : PySem.W.Frag) (w : World) : List V → Hp → VK → Prop := fun vs H Q => ∃ (a : Addr) (ns : List Int), vs = [.ref a] ∧ SqL K H a (ns.map V.int) ∧ ns.length + 1 < scanBound ∧
  ∀ (p : Addr) (c : Nat), H p = none → c ≤ ns.length → Q (.ref p) (upd H p (SetO w p (fun j => decide (j ∈ ns)) c))
theorem cr_setLI {X : Cx} (calm : X.calm = true) : CallR X (.type "set") (rSetLI X.K X.w) := by
  intro pins s σ H vs us Q I r h
  obtain ⟨a, ns, rfl, hq, hb, q⟩ := h
  rw [Vals.ref1 r]
  obtain ⟨its, rv, pl, _⟩ := I.list hq
  refine PV3.set_of_list ns (I.ok.hd calm) pl.isList (show IntsAre its.toArray.toList ns from ints_of_vals rv) hb fun h' tk c R1 hc k => ?_
  have hz : s.heap.objs.size ≤ s.heap.objs.size := Nat.le_refl _
  have free : H s.heap.objs.size = none := I.hok.fresh hz
  have new := setO_new (w := X.w) (P := X.prog) (H := upd H s.heap.objs.size (SetO X.w s.heap.objs.size (fun j => decide (j ∈ ns)) c)) R1
  exact ⟨.ref s.heap.objs.size, _, I.laid (t' := tk) k hz new, rfl, q _ _ free hc⟩
end Pw

/-! the greatest gap between powers: what it is, contracts -/
namespace Pm
/-- the walk over the gaps, the first so many -/
def stepG (o : Option (Nat × Nat × Nat)) (x y : Nat) : Option (Nat × Nat × Nat) := match o with
  | none => some (y - x, x, y)
  | some (g, a, b) => if g < y - x then some (y - x, x, y) else some (g, a, b)
def bst (zs : List Nat) : Nat → Option (Nat × Nat × Nat)
  | 0 => none
  | i + 1 => match zs[i]?, zs[i + 1]? with
    | some x, some y => stepG (bst zs i) x y
    | _, _ => bst zs i
theorem bst_succ {zs : List Nat} {i x y : Nat} (hx : zs[i]? = some x) (hy : zs[i + 1]? = some y) : bst zs (i + 1) = stepG (bst zs i) x y := by
  show (match zs[i]?, zs[i + 1]? with | some x, some y => stepG (bst zs i) x y | _, _ => bst zs i) = _
  rw [hx, hy]
/-- all powers to n, rising -/
def Powers (n : Nat) (zs : List Nat) : Prop := zs.Pairwise (· < ·) ∧ ∀ m, m ∈ zs ↔ m ≤ n ∧ 1 ≤ m ∧ IsPow m
theorem Powers.uniq {n : Nat} {xs ys : List Nat} (h : Powers n xs) (h' : Powers n ys) : xs = ys := up_uniq h.1 h'.1 fun k => (h.2 k).trans (h'.2 k).symm
/-- the greatest gap, and the first such -/
def Best (n : Nat) (o : Option (Nat × Nat × Nat)) : Prop := ∃ zs, Powers n zs ∧ o = bst zs (zs.length - 1)
theorem Best.uniq {n : Nat} {o o' : Option (Nat × Nat × Nat)} (h : Best n o) (h' : Best n o') : o = o' := by
  obtain ⟨zs, h1, rfl⟩ := h
  obtain ⟨zs', h2, rfl⟩ := h'
  rw [h1.uniq h2]
theorem isPow_sq (b : Nat) : IsPow (b * b) := ⟨b, 2, Nat.le_refl _, Nat.pow_two b⟩
theorem pow_le_exp {b k m : Nat} (hb : 2 ≤ b) (hm : b ^ k ≤ m) : 2 ^ k ≤ m := Nat.le_trans (Nat.pow_le_pow_left hb k) hm
theorem isPow8 {m : Nat} (h : IsPow m) (h1 : 1 ≤ m) (h8 : m ≤ 8) : m = 1 ∨ m = 4 ∨ m = 8 := by
  obtain ⟨b, k, hk, e⟩ := h
  rcases Nat.lt_or_ge b 2 with hb | hb
  · have : b = 0 ∨ b = 1 := by omega
    rcases this with rfl | rfl
    · rw [Nat.zero_pow (by omega)] at e
      omega
    · rw [Nat.one_pow] at e
      exact .inl e.symm
  · have k3 : k ≤ 3 := by
      refine Nat.le_of_not_lt fun z => ?_
      have h1 := pow_le_exp hb (show b ^ k ≤ 8 by omega)
      have h2 : (2 : Nat) ^ 4 ≤ 2 ^ k := Nat.pow_le_pow_right (by decide) z
      omega
    have b2 : b ≤ 2 := by
      refine Nat.le_of_not_lt fun z => ?_
      have h2 : 3 ^ 2 ≤ b ^ k := Nat.le_trans (Nat.pow_le_pow_left z 2) (Nat.pow_le_pow_right (by omega) hk)
      omega
    have : b = 2 := by omega
    subst this
    have : k = 2 ∨ k = 3 := by omega
    rcases this with rfl | rfl
    · exact .inr (.inl e.symm)
    · exact .inr (.inr e.symm)
theorem powers3 : Powers 3 [1] := ⟨by simp, fun m => ⟨fun h => by
  have : m = 1 := by simpa using h
  subst this
  exact ⟨by decide, by decide, 1, 2, by decide, rfl⟩, fun ⟨a, b, c⟩ => by
  rcases isPow8 c b (by omega) with rfl | rfl | rfl
  · simp
  · omega
  · omega⟩⟩
theorem powers4 : Powers 4 [1, 4] := ⟨by simp, fun m => ⟨fun h => by
  have : m = 1 ∨ m = 4 := by simpa using h
  rcases this with rfl | rfl
  · exact ⟨by decide, by decide, 1, 2, by decide, rfl⟩
  · exact ⟨by decide, by decide, 2, 2, by decide, rfl⟩, fun ⟨a, b, c⟩ => by
  rcases isPow8 c b (by omega) with rfl | rfl | rfl
  · simp
  · simp
  · omega⟩⟩
theorem powers8 : Powers 8 [1, 4, 8] := ⟨by simp, fun m => ⟨fun h => by
  have : m = 1 ∨ m = 4 ∨ m = 8 := by simpa using h
  rcases this with rfl | rfl | rfl
  · exact ⟨by decide, by decide, 1, 2, by decide, rfl⟩
  · exact ⟨by decide, by decide, 2, 2, by decide, rfl⟩
  · exact ⟨by decide, by decide, 2, 3, by decide, rfl⟩, fun ⟨a, b, c⟩ => by
  rcases isPow8 c b a with rfl | rfl | rfl <;> simp⟩⟩
theorem best3 {o : Option (Nat × Nat × Nat)} (h : Best 3 o) : o = none := h.uniq ⟨_, powers3, rfl⟩
theorem best4 {o : Option (Nat × Nat × Nat)} (h : Best 4 o) : o = some (3, 1, 4) := h.uniq ⟨_, powers4, by decide⟩
theorem best8 {o : Option (Nat × Nat × Nat)} (h : Best 8 o) : o = some (4, 4, 8) := h.uniq ⟨_, powers8, by decide⟩
/-- each power is a square, or an odd power of a base from 2 on -/
theorem isPow_two {m n L : Nat} (h : IsPow m) (h1 : 1 ≤ m) (hn : m ≤ n) (hL : n < 2 ^ L) : (∃ b, 1 ≤ b ∧ b * b = m) ∨ ∃ b k, 2 ≤ b ∧ 3 ≤ k ∧ k % 2 = 1 ∧ k < L ∧ b ^ k = m := by
  obtain ⟨b, k, hk, e⟩ := h
  rcases Nat.lt_or_ge b 2 with hb | hb
  · have : b = 0 ∨ b = 1 := by omega
    rcases this with rfl | rfl
    · rw [Nat.zero_pow (by omega)] at e
      omega
    · rw [Nat.one_pow] at e
      exact .inl ⟨1, Nat.le_refl _, e⟩
  · rcases Nat.mod_two_eq_zero_or_one k with z | z
    · left
      refine ⟨b ^ (k / 2), Nat.pow_pos (by omega), ?_⟩
      rw [← Nat.pow_add, ← e]
      congr 1
      omega
    · right
      refine ⟨b, k, hb, by omega, z, ?_, e⟩
      refine Nat.lt_of_not_le fun hle => ?_
      have h2 := pow_le_exp hb (show b ^ k ≤ n by omega)
      have h3 : (2 : Nat) ^ L ≤ 2 ^ k := Nat.pow_le_pow_right (by decide) hle
      omega
theorem root_small {n e r : Nat} (h : IsRoot n e r) (hn : n ≤ 1000000) (he : 3 ≤ e) : r ≤ 100 := by
  refine Nat.le_of_not_lt fun z => ?_
  have h1 : 101 ^ 3 ≤ r ^ e := Nat.le_trans (Nat.pow_le_pow_left z 3) (Nat.pow_le_pow_right (by omega) he)
  have h2 := h.1
  omega
theorem root_mem {n e r b : Nat} (h : IsRoot n e r) (he : 1 ≤ e) : b ^ e ≤ n ↔ b ≤ r := by
  constructor
  · intro hb
    refine Nat.le_of_not_lt fun z => ?_
    have h1 := Nat.pow_le_pow_left (show r + 1 ≤ b from z) e
    have h2 := h.2
    omega
  · intro hb
    exact Nat.le_trans (Nat.pow_le_pow_left hb e) h.1
end Pm
namespace Pw
open PySem PySem.Spec PyProof.Rows L2 SX TL RZ
/-- a gap as it is told: None, or a triple -/
def Gp (H : Hp) (v : V) : Option (Nat × Nat × Nat) → Prop
  | none => v = .non
  | some (g, x, y) => ∃ p, v = .ref p ∧ H p = some (.tup [.int (g : Int), .int (x : Int), .int (y : Int)])
theorem Gp.same {H H' : Hp} {v : V} {o : Option (Nat × Nat × Nat)} (h : Gp H v o) (s : Same H H') : Gp H' v o := by
  cases o with
  | none => exact h
  | some t =>
    obtain ⟨p, e, hp⟩ := h
    exact ⟨p, e, s _ _ hp⟩
theorem r_setLN {K : PySem.W.Frag} {w : World} {a : Addr} {l : List Nat} {H : Hp} {Q : VK} (h : SqL K H a (nn l)) (few : l.length + 1 < scanBound)
    (q : ∀ (p : Addr) (H' : Hp), H p = none → Same H H' → SetN w H' p (fun m => m ∈ l) l.length → Q (.ref p) H') : rSetLI K w [.ref a] H Q := by
  refine ⟨a, l.map fun k : Nat => (k : Int), rfl, h, by rw [List.length_map]; exact few, fun p c np hc => q p _ np (same_new np) ⟨_, c, upd_same, by rw [List.length_map] at hc; exact hc, fun j => ?_⟩⟩
  rw [decide_eq_true_iff, List.mem_map]
  exact ⟨fun ⟨m, hm, e⟩ => ⟨m, e.symm, hm⟩, fun ⟨m, e, hm⟩ => ⟨m, hm, e.symm⟩⟩
def spOdd : Sp := fun vs H Q _ => ∃ n : Nat, vs = [.int (n : Int)] ∧ n ≤ 1000000 ∧ ∀ (p : Addr) (H' : Hp) (l : List Nat), H p = none → Same H H' → H' p = some (.lst (nn l)) → l.length ≤ 2000 → (∀ m ∈ l, m ≤ n ∧ 1 ≤ m ∧ Pm.IsPow m) →
  (∀ b k, 2 ≤ b → 3 ≤ k → k % 2 = 1 → b ^ k ≤ n → b ^ k ∈ l) → Q (.ref p) H'
def spPowersTo : Sp := fun vs H Q _ => ∃ n : Nat, vs = [.int (n : Int)] ∧ n ≤ 1000000 ∧ ∀ (p : Addr) (H' : Hp) (zs : List Nat), Pm.Powers n zs → H p = none → Same H H' → H' p = some (.lst (nn zs)) → Q (.ref p) H'
def spGap : Sp := fun vs H Q _ => ∃ n : Nat, vs = [.int (n : Int)] ∧ n ≤ 1000000 ∧ ∀ (v : V) (H' : Hp) (o : Option (Nat × Nat × Nat)), Pm.Best n o → Same H H' → Gp H' v o → Q v H'
/-- the law's deck -/
def DkAt (H : Hp) (d : Addr) (n : Nat) : Prop := ∃ g m t : Int, H d = some (.lst [.int g, .int m, .int t]) ∧ 0 ≤ g ∧ 0 ≤ m ∧ m < 2 ^ 40 ∧ 0 ≤ t ∧ t ≤ (n : Int)
theorem DkAt.same {H H' : Hp} {d : Addr} {n : Nat} (h : DkAt H d n) (s : Same H H') : DkAt H' d n := by
  obtain ⟨g, m, t, h1, h2⟩ := h
  exact ⟨g, m, t, s _ _ h1, h2⟩
theorem DkAt.mono {H : Hp} {d : Addr} {n n' : Nat} (h : DkAt H d n) (l : n ≤ n') : DkAt H d n' := by
  obtain ⟨g, m, t, h1, h2, h3, h4, h5, h6⟩ := h
  exact ⟨g, m, t, h1, h2, h3, h4, h5, by omega⟩
def spDeckB (K : PySem.W.Frag) : Sp := fun vs H Q _ => ∃ (a : Addr) (ns : List Int), vs = [.ref a] ∧ SqL K H a (ns.map V.int) ∧ ns.length ≤ 63 ∧ (∀ z ∈ ns, Builtin.Int.intBits z ≤ 1048576) ∧ ∀ (d : Addr) (H' : Hp), H d = none → Same H H' → DkAt H' d 0 → Q (.ref d) H'
def spDrawB : Sp := fun vs H Q _ => ∃ (d : Addr) (most : Int) (n : Nat), vs = [.ref d, .int most] ∧ 0 < most ∧ most < 2 ^ 40 ∧ DkAt H d n ∧ n ≤ 2 ^ 20 ∧ ∀ (r : Int) (H' : Hp), 0 ≤ r → r < most → Keep d H H' → DkAt H' d (n + 1) → Q (.int r) H'
def spNever : Sp := fun _ _ _ _ => False
/-- one and the same: numbers, or none -/
def spSame0 : Sp := fun vs H Q _ => ∃ k : Nat, vs = [.int (k : Int), .int (k : Int)] ∧ Q (.bl true) H
def spSame1 : Sp := fun vs H Q _ => ∃ (u v : V) (o : Option (Nat × Nat × Nat)), vs = [u, v] ∧ Gp H u o ∧ Gp H v o ∧ ∀ H', Same H H' → Q (.bl true) H'
def spHigher : Sp := fun vs H Q _ => ∃ n : Nat, vs = [.int (n : Int)] ∧ n ≤ 1000000 ∧ ∀ (d : Addr) (H' : Hp) (ks : List Nat), H d = none → Same H H' → MT H' d ks → ks.length ≤ 10000 → (∀ m, m ∈ ks ↔ m = 1 ∨ ∃ b k, 2 ≤ b ∧ 3 ≤ k ∧ b ^ k = m ∧ m ≤ n) → Q (.ref d) H'
def spDue15 : Sp := fun vs H Q _ => ∃ n : Nat, vs = [.int (n : Int)] ∧ n ≤ 1000000 ∧ ∀ (v : V) (H' : Hp) (o : Option (Nat × Nat × Nat)), Pm.Best n o → Same H H' → Gp H' v o → Q v H'
def spLawB (K : PySem.W.Frag) : Sp := fun vs H Q _ => ∃ (a : Addr) (ns : List Int), vs = [.ref a] ∧ SqL K H a (ns.map V.int) ∧ ns.length ≤ 63 ∧ (∀ z ∈ ns, Builtin.Int.intBits z ≤ 1048576) ∧ ∀ H', Q (.bl true) H'
/-- a comprehension over zip of two tuples of one length -/
theorem lc_zipT {K : PySem.W.Frag} {a b : Addr} {xs ys : List V} {g : TG} {tt : TT} {te : TE} {vs : List Nat} {σ : L2.St} {H1 : Hp} {D : Addr} {Qd : Hp → Prop} (hl : xs.length = ys.length) (Pv : Nat → Hp → Prop) (h0 : Pv 0 (upd H1 D (.lst [])))
    (hq : ∀ i H, Pv i H → SqT K H a xs ∧ SqT K H b ys)
    (hs : ∀ (i : Nat) (x y : V) (T : Addr) (H : Hp), xs[i]? = some x → ys[i]? = some y → Pv i H → H T = none → g (.ref T) (wipe σ vs) (upd H T (.tup [x, y])) fun σ2 H2 => wipe σ2 vs = wipe σ vs ∧ tt σ2 H2 fun b H3 =>
      if b = true then te σ2 H3 fun y H4 => ∃ acc, H4 D = some (.lst acc) ∧ acc.length < sizeLine ∧ Pv (i + 1) (upd H4 D (.lst (acc ++ [y]))) else Pv (i + 1) H3)
    (hd : ∀ H, Pv xs.length H → Qd H) :
    ∃ W : Nat → Nat → Hp → Prop, (∃ m, W 0 m (upd H1 D (.lst []))) ∧ ∀ i m H, W i m H →
      ((ItzT K a b).stop i H ∧ Qd H) ∨ ((ItzT K a b).go i H ∧ ∃ Nx : Hp → Prop, (∀ H', Nx H' → ∃ m', m' < m ∧ W (i + 1) m' H') ∧ ∀ x H', (ItzT K a b).yld i H x H' → g x (wipe σ vs) H' fun σ2 H2 => wipe σ2 vs = wipe σ vs ∧ tt σ2 H2 fun b H3 =>
        if b = true then te σ2 H3 fun y H4 => ∃ acc, H4 D = some (.lst acc) ∧ acc.length < sizeLine ∧ Nx (upd H4 D (.lst (acc ++ [y]))) else Nx H3) := by
  refine ⟨fun i m H => m = xs.length - i ∧ i ≤ xs.length ∧ Pv i H, ⟨xs.length, rfl, Nat.zero_le _, h0⟩, ?_⟩
  rintro i m H ⟨rfl, hi, p⟩
  obtain ⟨qx, qy⟩ := hq i H p
  by_cases hlt : i < xs.length
  · have hx : xs[i]? = some xs[i] := List.getElem?_eq_getElem hlt
    have hlt2 : i < ys.length := by omega
    have hy : ys[i]? = some ys[i] := List.getElem?_eq_getElem hlt2
    refine .inr ⟨⟨xs, ys, _, _, qx, qy, hx, hy⟩, Pv (i + 1), fun H' p' => ⟨xs.length - (i + 1), by omega, rfl, hlt, p'⟩, fun v H' y => ?_⟩
    obtain ⟨T, x', y', rfl, hT, rfl, f1, f2⟩ := y
    exact hs i x' y' T H (f1 xs qx) (f2 ys qy) p hT
  · have e : i = xs.length := by omega
    subst e
    exact .inl ⟨⟨xs, ys, qx, qy, Or.inl (Nat.le_refl _)⟩, hd H p⟩
theorem r_iPw {K : PySem.W.Frag} {ta : TA} {σ : L2.St} {H : Hp} {R : It → Hp → Prop} (h : ta σ H fun vs H1 => ∃ a ns, vs = [.ref a] ∧ SqL K H1 a (ns.map V.int) ∧ (∀ n ∈ ns, n ≠ 0) ∧ R (PW2.ItPw K a ns) H1) : PW2.iPw K ta σ H R := h
theorem r_iZipA {K : PySem.W.Frag} {ta : TA} {σ : L2.St} {H : Hp} {R : It → Hp → Prop} (h : ta σ H fun vs H1 => ∃ a b xs ys, vs = [.ref a, .ref b] ∧ ((SqL K H1 a xs ∧ SqL K H1 b ys ∧ R (Itz K a b) H1) ∨ (SqT K H1 a xs ∧ SqT K H1 b ys ∧ R (ItzT K a b) H1))) : iZipA K ta σ H R := h
theorem at_cast {zs : List Nat} {i : Nat} {x : Int} (h : (zs.map fun k : Nat => (k : Int))[i]? = some x) : ∃ k : Nat, zs[i]? = some k ∧ x = (k : Int) := by
  rw [List.getElem?_map, Option.map_eq_some_iff] at h
  obtain ⟨k, h1, h2⟩ := h
  exact ⟨k, h1, h2.symm⟩
theorem up_lt {zs : List Nat} (h : zs.Pairwise (· < ·)) {i x y : Nat} (hx : zs[i]? = some x) (hy : zs[i + 1]? = some y) : x < y := by
  obtain ⟨h1, rfl⟩ := List.getElem?_eq_some_iff.mp hx
  obtain ⟨h2, rfl⟩ := List.getElem?_eq_some_iff.mp hy
  exact List.pairwise_iff_getElem.mp h i (i + 1) h1 h2 (by omega)
theorem bits_abs {z : Int} {B : Nat} (h : Builtin.Int.intBits z ≤ B) : z.natAbs < 2 ^ B := by
  have e : Builtin.Int.intBits z = Builtin.Int.intBits (z.natAbs : Int) := by
    unfold Builtin.Int.intBits
    by_cases hz : z = 0
    · subst hz
      rfl
    · rw [if_neg (by simpa using hz), if_neg (by simpa using hz), Int.natAbs_natCast]
  rw [e] at h
  exact Nat.lt_of_lt_of_le (bits_lt z.natAbs) (Nat.pow_le_pow_right (by decide) h)
theorem great_step {G c B i : Nat} (k : Nat) (hG : G < 2 ^ (B + (k + 1) * i)) (hc : c < 2 ^ B) : G * 2 ^ k + c < 2 ^ (B + (k + 1) * (i + 1)) := by
  have e : 2 ^ (B + (k + 1) * (i + 1)) = 2 ^ (B + (k + 1) * i) * 2 ^ k * 2 := by
    rw [← Nat.pow_add, ← Nat.pow_succ]
    congr 1
    rw [Nat.mul_succ]
    omega
  have h1 : 2 ^ B ≤ 2 ^ (B + (k + 1) * i) * 2 ^ k := by
    rw [← Nat.pow_add]
    exact Nat.pow_le_pow_right (by decide) (by rw [Nat.add_assoc]; exact Nat.le_add_right _ _)
  have h2 : (G + 1) * 2 ^ k ≤ 2 ^ (B + (k + 1) * i) * 2 ^ k := Nat.mul_le_mul_right _ hG
  have h3 : 0 < 2 ^ k := Nat.pow_pos (by decide)
  rw [e]
  rw [Nat.succ_mul] at h2
  generalize 2 ^ (B + (k + 1) * i) * 2 ^ k = X at *
  generalize G * 2 ^ k = Y at *
  generalize 2 ^ B = Z at *
  omega
theorem r_shlG {H : Hp} {Q : VK} {i j : Int} (n k : Nat) (a : Nat) (hi : i = (n : Int)) (hj : j = (k : Int)) (ha : n < 2 ^ a) (hk : a + k ≤ 134217728) (q : Q (.int ((n * 2 ^ k : Nat) : Int)) H) : rI CShl (fun i j => V.int (i * 2 ^ j.toNat)) (.int i) (.int j) H Q := by
  subst hi
  subst hj
  refine r_I (shl_ok (n := a) (by rw [Int.natAbs_natCast]; exact ha) hk) ?_
  rw [Int.toNat_natCast]
  have e : ((n : Int) * 2 ^ k) = ((n * 2 ^ k : Nat) : Int) := by push_cast; rfl
  rw [e]
  exact q
section
variable {K : PySem.W.Frag} {H : Hp} {Q : VK}
theorem kB_istr : kitB "int" "str" = some false := by decide +kernel
theorem r_isiIStr {i : Int} (q : Q (.bl false) H) : rIsi K [.int i, .ty "str"] H Q := r_isi (.base (.int i)) kB_istr q
theorem r_eqDI {i j : Int} (k : Q (.bl (decide (i = j))) H) : rEqD K (.int i) (.int j) H Q :=
  ⟨.int i, .int j, .int i, .int j, rfl, rfl, by
    have e : PyData.eqv (.int i) (.int j) = decide (i = j) := by
      show (i == j) = decide (i = j)
      by_cases h : i = j <;> simp [h]
    rw [e]; exact k⟩
theorem r_neGp {u v : V} {o : Option (Nat × Nat × Nat)} (hu : Gp H u o) (hv : Gp H v o) (k : Q (.bl false) H) : rNeD K u v H Q := by
  cases o with
  | none =>
    have e1 : u = .non := hu
    have e2 : v = .non := hv
    subst e1 e2
    exact ⟨.none, .none, .non, .non, rfl, rfl, k⟩
  | some t =>
    obtain ⟨g, a, b⟩ := t
    obtain ⟨p, rfl, hp⟩ := hu
    obtain ⟨p', rfl, hp'⟩ := hv
    exact r_neDT (ns := [(g : Int), (a : Int), (b : Int)]) (ms := [(g : Int), (a : Int), (b : Int)]) (SqT.of hp) (SqT.of hp') (by simpa using k)
end
end Pw

/-! the round of i -> 5 i + 1 at any power of two: each slot is met -/
namespace Pt
open PySem PySem.Spec PyProof.Rows L2
/-- 1 + 5 + 25 + .. -/
def S : Nat → Nat
  | 0 => 0
  | b + 1 => 5 * S b + 1
theorem S_add : ∀ a d : Nat, S (a + d) = S a + 5 ^ a * S d
  | 0, d => by rw [Nat.zero_add, Nat.pow_zero, Nat.one_mul]; exact (Nat.zero_add _).symm
  | a + 1, d => by
    have ih := S_add a d
    rw [show a + 1 + d = a + d + 1 by omega]
    show 5 * S (a + d) + 1 = 5 * S a + 1 + 5 ^ (a + 1) * S d
    rw [ih, Nat.pow_succ, Nat.mul_add, ← Nat.mul_assoc, Nat.mul_comm 5 (5 ^ a)]
    omega
theorem S_two (d : Nat) : S (d + d) = S d * (5 ^ d + 1) := by
  rw [S_add, Nat.mul_add, Nat.mul_one, Nat.mul_comm (S d) (5 ^ d), Nat.add_comm]
theorem five (e : Nat) : ∃ t, 5 ^ e = 4 * t + 1 := by
  induction e with
  | zero => exact ⟨0, rfl⟩
  | succ e ih =>
    obtain ⟨t, h⟩ := ih
    exact ⟨5 * t + 1, by rw [Nat.pow_succ, h]; omega⟩
theorem S_par : ∀ d, S d % 2 = d % 2
  | 0 => rfl
  | d + 1 => by
    have ih := S_par d
    show (5 * S d + 1) % 2 = (d + 1) % 2
    omega
theorem odd_out : ∀ (k x t : Nat), 2 ^ k ∣ x * (2 * t + 1) → 2 ^ k ∣ x
  | 0, x, _, _ => by rw [Nat.pow_zero]; exact Nat.one_dvd x
  | k + 1, x, t, h => by
    have h2 : 2 ∣ x * (2 * t + 1) := Nat.dvd_trans ⟨2 ^ k, by rw [Nat.pow_succ, Nat.mul_comm]⟩ h
    obtain ⟨y, rfl⟩ : ∃ y, x = 2 * y := by
      refine ⟨x / 2, ?_⟩
      have e : x * (2 * t + 1) = 2 * (x * t) + x := by rw [Nat.mul_add, Nat.mul_one, Nat.mul_left_comm]
      rw [e] at h2
      have := Nat.mod_eq_zero_of_dvd h2
      omega
    rw [Nat.pow_succ, Nat.mul_comm (2 ^ k) 2, Nat.mul_assoc] at h
    rw [Nat.pow_succ, Nat.mul_comm (2 ^ k) 2]
    exact Nat.mul_dvd_mul_left 2 (odd_out k y t (Nat.dvd_of_mul_dvd_mul_left (by decide) h))
theorem S_dvd : ∀ (k d : Nat), 2 ^ k ∣ S d → 2 ^ k ∣ d
  | 0, d, _ => by rw [Nat.pow_zero]; exact Nat.one_dvd d
  | k + 1, d, h => by
    have h2 : 2 ∣ S d := Nat.dvd_trans ⟨2 ^ k, by rw [Nat.pow_succ, Nat.mul_comm]⟩ h
    obtain ⟨e, rfl⟩ : ∃ e, d = e + e := ⟨d / 2, by
      have h3 := S_par d
      have h4 := Nat.mod_eq_zero_of_dvd h2
      omega⟩
    obtain ⟨t, ht⟩ := five e
    have e1 : S (e + e) = 2 * (S e * (2 * t + 1)) := by
      rw [S_two, ht, show 4 * t + 1 + 1 = 2 * (2 * t + 1) by omega, Nat.mul_left_comm]
    rw [e1, Nat.pow_succ, Nat.mul_comm (2 ^ k) 2] at h
    have h5 := S_dvd k e (odd_out k _ t (Nat.dvd_of_mul_dvd_mul_left (by decide) h))
    rw [Nat.pow_succ, Nat.mul_comm (2 ^ k) 2, ← Nat.two_mul]
    exact Nat.mul_dvd_mul_left 2 h5
theorem S_pow : ∀ k : Nat, 2 ^ k ∣ S (2 ^ k)
  | 0 => by rw [Nat.pow_zero]; exact Nat.one_dvd _
  | k + 1 => by
    obtain ⟨t, ht⟩ := five (2 ^ k)
    rw [Nat.pow_succ, Nat.mul_two, S_two, ht, ← Nat.mul_two, show 4 * t + 1 + 1 = 2 * (2 * t + 1) by omega]
    exact Nat.mul_dvd_mul (S_pow k) ⟨2 * t + 1, rfl⟩
theorem five_out : ∀ (k a x : Nat), 2 ^ k ∣ 5 ^ a * x → 2 ^ k ∣ x := fun k a x h => by
  obtain ⟨t, ht⟩ := five a
  rw [ht, Nat.mul_comm, show 4 * t + 1 = 2 * (2 * t) + 1 by omega] at h
  exact odd_out k x (2 * t) h
/-- a mask of a table: one less than a power of two -/
def MaskG (m : Nat) : Prop := ∃ k, 3 ≤ k ∧ m + 1 = 2 ^ k
theorem lcgN_S (m : Nat) : ∀ b, lcgN m b = S b % (m + 1)
  | 0 => (Nat.zero_mod _).symm
  | b + 1 => by
    show (lcgN m b * 5 + 1) % (m + 1) = (5 * S b + 1) % (m + 1)
    rw [lcgN_S m b, Nat.mul_comm 5]
    rw [Nat.add_mod, Nat.mul_mod, Nat.mod_mod, ← Nat.mul_mod, ← Nat.add_mod]
theorem lcg_inj {m : Nat} (hm : MaskG m) {a b : Nat} (hab : a < b) (hb : b ≤ m) : lcgN m a ≠ lcgN m b := by
  obtain ⟨k, _, e⟩ := hm
  rw [lcgN_S, lcgN_S, e]
  intro h
  have h1 : 2 ^ k ∣ S b - S a := Nat.dvd_of_mod_eq_zero (Nat.sub_mod_eq_zero_of_mod_eq h.symm)
  have h2 : S b - S a = 5 ^ a * S (b - a) := by
    conv => lhs; rw [show b = a + (b - a) by omega, S_add]
    omega
  rw [h2] at h1
  have h3 := Nat.le_of_dvd (by omega) (S_dvd k _ (five_out k a _ h1))
  omega
theorem lcg_le (m b : Nat) : lcgN m b ≤ m := by
  rw [lcgN_S]
  exact Nat.le_of_lt_succ (Nat.mod_lt _ (Nat.succ_pos m))
theorem lcg_hits {m j : Nat} (hm : MaskG m) (hj : j ≤ m) : ∃ b, b ≤ m ∧ lcgN m b = j := by
  refine Classical.byContradiction fun no => ?_
  have nd : ((List.range (m + 1)).map (lcgN m)).Nodup := by
    refine List.pairwise_map.mpr (List.pairwise_lt_range.imp_of_mem fun {a b} _ hb lt => ?_)
    exact lcg_inj hm lt (Nat.le_of_lt_succ (List.mem_range.mp hb))
  have out : j ∉ (List.range (m + 1)).map (lcgN m) := fun h => by
    obtain ⟨b, hb, e⟩ := List.mem_map.mp h
    exact no ⟨b, Nat.le_of_lt_succ (List.mem_range.mp hb), e⟩
  have len := nat_nodup_len (j :: (List.range (m + 1)).map (lcgN m)) (List.range (m + 1)) (List.nodup_cons.mpr ⟨out, nd⟩) fun x hx => by
    refine List.mem_range.mpr (Nat.lt_succ_of_le ?_)
    rcases List.mem_cons.mp hx with rfl | hx
    · exact hj
    · obtain ⟨b, _, rfl⟩ := List.mem_map.mp hx
      exact lcg_le m b
  rw [List.length_cons, List.length_map, List.length_range] at len
  omega
theorem lcg_back {m : Nat} (hm : MaskG m) (x : Nat) : lcgN m (m + 1 + x) = lcgN m x := by
  have z : lcgN m (m + 1) = 0 := by
    obtain ⟨k, _, e⟩ := hm
    rw [lcgN_S, e]
    exact Nat.mod_eq_zero_of_dvd (S_pow k)
  rw [← lcgN_add m (m + 1) x, z]
  exact (lcgN_add m 0 x).trans (by rw [Nat.zero_add])
theorem hits {m i j : Nat} (hm : MaskG m) (hi : i ≤ m) (hj : j ≤ m) : ∃ k, k ≤ m ∧ lcgI m i k = j := by
  obtain ⟨a, ha, rfl⟩ := lcg_hits hm hi
  obtain ⟨b, hb, rfl⟩ := lcg_hits hm hj
  by_cases c : a ≤ b
  · exact ⟨b - a, by omega, by rw [lcgN_add, show a + (b - a) = b by omega]⟩
  · exact ⟨m + 1 + b - a, by omega, by rw [lcgN_add, show a + (m + 1 + b - a) = m + 1 + b by omega, lcg_back hm]⟩
theorem run_hits {m j : Nat} (hm : MaskG m) (h : Int) (hj : j ≤ m) : ∃ n, n ≤ m + 12 ∧ runI m (SetTable.bits h) n = j := by
  obtain ⟨k, hk, e⟩ := hits hm (runI_le m (SetTable.bits h) 12) hj
  exact ⟨12 + k, by omega, (runI_tail (L2.bits_lt h) k).trans e⟩
theorem way_in (m : Nat) (h : Int) (k : Nat) : way m h k ≤ m := by
  have lt : SetTable.bits h % (m + 1) ≤ m := Nat.le_of_lt_succ (Nat.mod_lt _ (Nat.succ_pos m))
  have bd := runEnd_bd lt
  have z := nth_in (m := m) k (runAt m (SetTable.bits h % (m + 1)) (SetTable.bits h)) (show SetTable.bits h % (m + 1) + (SetTable.runEnd m (SetTable.bits h % (m + 1)) - SetTable.bits h % (m + 1)) ≤ m by omega)
  exact Nat.le_trans (Nat.le_add_right _ _) z
theorem way_hits {m j : Nat} (hm : MaskG m) (h : Int) (hj : j ≤ m) : ∃ k, k < 10 * SetTable.turns m ∧ way m h k = j := by
  obtain ⟨n, hn, e⟩ := run_hits hm h hj
  obtain ⟨k, hk, e2⟩ := run_nth m (SetTable.bits h) n
  refine ⟨k, by unfold SetTable.turns; omega, ?_⟩
  show (nth m _ k).j = j
  rw [e2]
  exact e
end Pt

/-! tables of any size: one put in, all laid anew -/
namespace Pt
open PySem PySem.Spec PyProof.Rows L2
/-- a table of any mask: each entry stands on its hash's way, and nothing before it is empty -/
structure TabG (t : SetTable) (hs : List Int) : Prop where
  rise : Ris t.place.toList
  clean : t.dummies = #[]
  many : t.place.toList.length = hs.length
  mask : MaskG t.mask
  within : ∀ x ∈ t.place.toList, x ≤ t.mask
  found : ∀ (i : Nat) (h : Int) (j : Nat), hs[i]? = some h → t.place.toList[i]? = some j → ∃ k, way t.mask h k = j ∧ ∀ k', k' < k → way t.mask h k' ∈ t.place.toList
section
variable {t : SetTable} {hs : List Int}
/-- where a new one of this hash goes -/
theorem TabG.gap (T : TabG t hs) (room : hs.length ≤ t.mask) (h : Int) : ∃ K, K < 10 * SetTable.turns t.mask ∧ way t.mask h K ∉ t.place.toList ∧ ∀ k, k < K → way t.mask h k ∈ t.place.toList := by
  obtain ⟨j, hj, no⟩ := st_missing t.place.toList (t.mask + 1) (by rw [T.many]; omega)
  obtain ⟨k, hk, rfl⟩ := way_hits T.mask h (Nat.le_of_lt_succ hj)
  obtain ⟨K, a, b, c⟩ := st_least (p := fun k => way t.mask h k ∉ t.place.toList) k no
  exact ⟨K, Nat.lt_of_le_of_lt a hk, b, fun k' lt => Classical.byContradiction fun z => c k' lt z⟩
theorem TabG.ahead (T : TabG t hs) {h : Int} {K i j : Nat} (free : way t.mask h K ∉ t.place.toList) (hi : hs[i]? = some h) (hj : t.place.toList[i]? = some j) : ∃ k, k < K ∧ way t.mask h k = j := by
  obtain ⟨k, e, full⟩ := T.found i h j hi hj
  refine ⟨k, Nat.lt_of_not_le fun z => ?_, e⟩
  rcases Nat.eq_or_lt_of_le z with q | q
  · subst q
    rw [e] at free
    exact free (List.mem_of_getElem? hj)
  · exact free (full K q)
/-- one put in -/
theorem TabG.put (T : TabG t hs) {h : Int} {K : Nat} (free : way t.mask h K ∉ t.place.toList) (full : ∀ k, k < K → way t.mask h k ∈ t.place.toList) :
    SetTable.below t.place (way t.mask h K) ≤ hs.length ∧
    TabG (t.put (way t.mask h K)).1 (hs.take (SetTable.below t.place (way t.mask h K)) ++ h :: hs.drop (SetTable.below t.place (way t.mask h K))) := by
  have inside := way_in t.mask h K
  have here : ∃ k, way t.mask h k = way t.mask h K ∧ ∀ k', k' < k → way t.mask h k' ∈ t.place.toList := ⟨K, rfl, full⟩
  revert here
  generalize way t.mask h K = j at free inside ⊢
  intro here
  obtain ⟨cut, _, _⟩ := below_cut T.rise j
  have pl : SetTable.below t.place j ≤ t.place.toList.length := by rw [Array.length_toList]; exact cut
  have ph : SetTable.below t.place j ≤ hs.length := by rw [← T.many]; exact pl
  have off : t.place[SetTable.below t.place j]? ≠ some j := fun e => free (List.mem_of_getElem? (by rw [Array.getElem?_toList]; exact e))
  have now := put_place t j
  have more : ∀ x, x ∈ t.place.toList → x ∈ (t.put j).1.place.toList := fun x hx => by rw [now]; exact mem_ins.mpr (.inr hx)
  refine ⟨ph, ⟨ris_insert T.rise off, put_dm T.clean j, ?_, T.mask, ?_, ?_⟩⟩
  · rw [now, len_ins _ pl, len_ins _ ph, T.many]
  · intro x hx
    rw [now] at hx
    exact (mem_ins.mp hx).elim (fun e => e ▸ inside) (T.within x)
  · intro i h' j' e1 e2
    rw [tins_get hs ph] at e1
    rw [now, tins_get _ pl] at e2
    have old : ∀ i, hs[i]? = some h' → t.place.toList[i]? = some j' → ∃ k, way t.mask h' k = j' ∧ ∀ k', k' < k → way t.mask h' k' ∈ (t.put j).1.place.toList := fun i a b => by
      obtain ⟨k, c, d⟩ := T.found i h' j' a b
      exact ⟨k, c, fun k' lt => more _ (d k' lt)⟩
    show ∃ k, way t.mask h' k = j' ∧ ∀ k', k' < k → way t.mask h' k' ∈ (t.put j).1.place.toList
    split at e1
    · rw [if_pos ‹_›] at e2
      exact old i e1 e2
    · rw [if_neg ‹_›] at e2
      split at e1
      · rw [if_pos ‹_›] at e2
        cases e1
        cases e2
        obtain ⟨k, c, d⟩ := here
        exact ⟨k, c, fun k' lt => more _ (d k' lt)⟩
      · rw [if_neg ‹_›] at e2
        exact old (i - 1) e1 e2
end
/-! ### all laid anew -/
/-- a free slot, by the runs -/
theorem free_at {m j : Nat} (hm : MaskG m) (owner : Array (Option Nat)) (h : Int) (hj : j ≤ m) (none_ : oAt owner j = none) :
    ∃ K, SetTable.layClean.free m owner (SetTable.turns m) (SetTable.bits h % (m + 1)) (SetTable.bits h) = some (way m h K) ∧ oAt owner (way m h K) = none ∧ ∀ k, k < K → oAt owner (way m h k) ≠ none := by
  obtain ⟨n, hn, e⟩ := run_hits hm h hj
  have at_ : way m h (off m (SetTable.bits h % (m + 1)) (SetTable.bits h) n) = j := by
    show (nth m (runAt m _ _) (off m _ _ n)).j = j
    rw [nth_off, itL_run]
    exact e
  obtain ⟨K, a, b, c⟩ := st_least (p := fun k => oAt owner (way m h k) = none) (off m (SetTable.bits h % (m + 1)) (SetTable.bits h) n) (by rw [at_]; exact none_)
  refine ⟨K, free_spec m owner (SetTable.turns m) n _ _ K (show n < m + 15 by omega) a (fun k lt => ?_) ?_, b, c⟩
  · cases z : oAt owner (nth m (runAt m (SetTable.bits h % (m + 1)) (SetTable.bits h)) k).j with
    | none => exact absurd z (c k lt)
    | some _ => rfl
  · rw [show oAt owner (nth m (runAt m (SetTable.bits h % (m + 1)) (SetTable.bits h)) K).j = none from b]
    rfl
theorem own_more {m : Nat} (hm : MaskG m) {done : List Int} {owner : Array (Option Nat)} (W : Own m done owner) (room : done.length ≤ m) (h : Int) :
    ∃ j, SetTable.layClean.free m owner (SetTable.turns m) (SetTable.bits h % (m + 1)) (SetTable.bits h) = some j ∧ Own m (done ++ [h]) (owner.setIfInBounds j (some done.length)) := by
  obtain ⟨ps, len, cover⟩ := W.ps
  obtain ⟨g, hg, no⟩ := st_missing ps (m + 1) (by omega)
  have empty : oAt owner g = none := Classical.byContradiction fun z => no (cover g (Nat.le_of_lt_succ hg) z)
  obtain ⟨K, a, b, c⟩ := free_at hm owner h (Nat.le_of_lt_succ hg) empty
  have inside := way_in m h K
  have here : ∃ k, way m h k = way m h K ∧ ∀ k', k' < k → oAt owner (way m h k') ≠ none := ⟨K, rfl, c⟩
  refine ⟨_, a, ?_⟩
  generalize way m h K = j at b inside here ⊢
  have lt : j < owner.size := by rw [W.sz]; omega
  have self := oAt_set_self (some done.length) lt
  have keep : ∀ i, i ≠ j → oAt (owner.setIfInBounds j (some done.length)) i = oAt owner i := fun i ne => oAt_set_ne _ ne
  have still : ∀ i, oAt owner i ≠ none → oAt (owner.setIfInBounds j (some done.length)) i ≠ none := fun i hi => by
    rw [keep i fun e => hi (e ▸ b)]
    exact hi
  constructor
  · rw [Array.size_setIfInBounds, W.sz]
  · intro i k hi e
    rcases Classical.em (i = j) with rfl | ne
    · rw [self] at e
      cases e
      obtain ⟨n, q, r⟩ := here
      exact ⟨h, n, by simp, q, fun n' l => still _ (r n' l)⟩
    · rw [keep i ne] at e
      obtain ⟨h', n, p, q, r⟩ := W.at_ i k hi e
      exact ⟨h', n, (List.getElem?_append_left (List.getElem?_eq_some_iff.mp p).1).trans p, q, fun n' l => still _ (r n' l)⟩
  · intro k hk
    rw [List.length_append, List.length_singleton] at hk
    rcases Nat.lt_or_ge k done.length with l | g
    · obtain ⟨i, hi, e⟩ := W.all k l
      exact ⟨i, hi, (keep i fun z => by rw [z, b] at e; cases e).trans e⟩
    · obtain rfl : k = done.length := by omega
      exact ⟨j, inside, self⟩
  · refine ⟨j :: ps, by simp [len], fun i hi e => ?_⟩
    rcases Classical.em (i = j) with rfl | ne
    · exact List.mem_cons_self
    · rw [keep i ne] at e
      exact List.mem_cons_of_mem _ (cover i hi e)
theorem fold_more {m : Nat} (hm : MaskG m) : ∀ (rest done : List Int) (owner : Array (Option Nat)), Own m done owner → done.length + rest.length ≤ m →
    ∃ o, rest.foldl (stepF m) (some (owner, done.length)) = some (o, (done ++ rest).length) ∧ Own m (done ++ rest) o
  | [], done, owner, W, _ => ⟨owner, by simp, by rw [List.append_nil]; exact W⟩
  | h :: rest, done, owner, W, room => by
    rw [List.length_cons] at room
    obtain ⟨j, e, W2⟩ := own_more hm W (by omega) h
    obtain ⟨o, f, W3⟩ := fold_more hm rest (done ++ [h]) _ W2 (by simp; omega)
    rw [List.length_append, List.length_singleton] at f
    refine ⟨o, ?_, by simpa using W3⟩
    rw [List.foldl_cons, stepF_some e, f]
    simp
theorem lay_more {m : Nat} (hm : MaskG m) {hs : Array Int} (room : hs.size ≤ m) : ∃ o, SetTable.layClean m hs = some o ∧ Own m hs.toList o := by
  obtain ⟨o, f, W⟩ := fold_more hm hs.toList [] _ (Own.init m) (by simpa using room)
  refine ⟨o, ?_, by simpa using W⟩
  rw [layClean_eq, show (0 : Nat) = ([] : List Int).length from rfl, f]
  rfl
end Pt

/-! tables laid anew; sets of any kind of value, any number of members: the search -/
namespace Pt
open PySem PySem.Spec PyProof.Rows L2
theorem relay_more (t : SetTable) {hs : Array Int} {wanted M : Nat} (hw : SetTable.sizeAbove wanted - 1 = M) (hM : MaskG M) (room : hs.size ≤ M) :
    ∃ t' order, t.relaid hs wanted = some (t', order) ∧ order.toList.Perm (List.range hs.size) ∧ TabG t' (order.toList.map fun i => hs.getD i 0) ∧ t'.mask = M ∧ t'.led = t.led ∧ t'.plain = t.plain := by
  obtain ⟨o, e, W⟩ := lay_more hM room
  have lives := fun j k => mem_live (m := M) W.sz (j := j) (k := k)
  have two := ris_live (fun j => o.getD j none) (List.range (M + 1)) (by unfold Ris; exact List.pairwise_lt_range)
  have up : Ris ((liveOf M o).map (·.1)) := two.1
  have ln : (liveOf M o).length = hs.size := by
    obtain ⟨ps, p1, p2⟩ := W.ps
    have le := nat_nodup_len _ ps (up.imp fun lt => Nat.ne_of_lt lt) fun x hx => by
      obtain ⟨⟨j, k⟩, m, rfl⟩ := List.mem_map.mp hx
      have z := (lives j k).mp m
      exact p2 j z.1 (by rw [z.2]; exact Option.some_ne_none k)
    have ge := nat_nodup_len (List.range hs.size) ((liveOf M o).map (·.2)) List.nodup_range fun k hk => by
      obtain ⟨j, a, b⟩ := W.all k (by simpa using hk)
      exact List.mem_map.mpr ⟨(j, k), (lives j k).mpr ⟨a, b⟩, rfl⟩
    simp only [List.length_map, List.length_range, p1, Array.length_toList] at le ge
    omega
  refine ⟨tabOf t M o, ((liveOf M o).map (·.2)).toArray, by rw [relaid_eq, hw, e]; rfl, ?_, ?_, rfl, rfl, rfl⟩
  · refine perm_range hs.size _ (by simpa using ln) fun k hk => ?_
    obtain ⟨j, a, b⟩ := W.all k (by simpa using hk)
    simpa using ⟨j, (lives j k).mpr ⟨a, b⟩⟩
  · constructor
    · exact up
    · rfl
    · show ((liveOf M o).map (·.1)).length = (((liveOf M o).map (·.2)).map _).length
      simp only [List.length_map]
    · exact hM
    · exact fun x hx => Nat.le_of_lt_succ (List.mem_range.mp (two.2 x hx))
    · intro i h j h1 h2
      have h1' : (((liveOf M o).map (·.2)).map fun i => hs.getD i 0)[i]? = some h := h1
      have h2' : ((liveOf M o).map (·.1))[i]? = some j := h2
      simp only [List.getElem?_map, Option.map_eq_some_iff] at h1' h2'
      obtain ⟨⟨j0, k⟩, m1, rfl⟩ := h2'
      obtain ⟨k2, ⟨q, m2, rfl⟩, rfl⟩ := h1'
      obtain rfl : (j0, k) = q := Option.some.inj (m1.symm.trans m2)
      obtain ⟨a, b⟩ := (lives j0 k).mp (List.mem_of_getElem? m1)
      obtain ⟨h0, K, c, d, f⟩ := W.at_ j0 k a b
      have eh : hs.getD k 0 = h0 := by
        rw [Array.getD_eq_getD_getElem?, ← Array.getElem?_toList, c]
        rfl
      show ∃ n, way M (hs.getD k 0) n = j0 ∧ _
      rw [eh]
      refine ⟨K, d, fun n lt => ?_⟩
      obtain ⟨k3, z⟩ := Option.ne_none_iff_exists'.mp (f n lt)
      exact List.mem_map.mpr ⟨(way M h0 n, k3), (lives _ k3).mpr ⟨way_in M h0 n, z⟩, rfl⟩
/-- values of one kind: each has a key; what is asked of them around A -/
structure KindG (P : Program) (w : World) (A : Around) (κ : Type) [DecidableEq κ] (hash : κ → Int) (Is : Heap → κ → Value → Prop) : Prop where
  eq : ∀ {E : Value → Shared → Prop} {s : Shared} {u v : Value} {k k' : κ} {Q : Bool → Shared → Prop}, Is s.heap k u → Is s.heap k' v → Q (decide (k = k')) s → wpAny (model P w) A (eqBool u v) Q E s
  seen : ∀ {E : Value → Shared → Prop} {s : Shared} {u : Value} {k : κ} {ys : List Value} {Q : Bool → Shared → Prop}, Is s.heap k u → (∀ y ∈ ys, ∃ k', Is s.heap k' y) → Q false s → wpAny (model P w) A (searchCouldBeSeen u ys) Q E s
  self : ∀ {E : Value → Shared → Prop} {s : Shared} {u : Value} {k : κ} {Q : Bool → Shared → Prop}, Is s.heap k u → Q true s → wpAny (model P w) A (isSame u u) Q E s
  value : ∀ {E : Value → Shared → Prop} {s : Shared} {u : Value} {k : κ} {Q : Bool → Shared → Prop}, Is s.heap k u → Q true s → wpAny (model P w) A (hashByValue 8 u) Q E s
  still : ∀ {h h' : Heap} {k : κ} {u : Value} {a : Addr} {o : Obj} {es : Array (Int × Value)} {ep : Nat} {t : SetTable}, Is h k u → h.get? a = some o → o.data = .set es ep t → Heap.SameBut a h h' → Is h' k u
section
variable {P : Program} {w : World} {A : Around} {E : Value → Shared → Prop} {s : Shared} {κ : Type} [DecidableEq κ] {hash : κ → Int} {Is : Heap → κ → Value → Prop}
def rowsG (hash : κ → Int) (L : List (Value × κ)) : List (Int × Value) := L.map fun p => (hash p.2, p.1)
/-- the set at a has the members L, in the order of its table -/
structure SetG (w : World) (hash : κ → Int) (Is : Heap → κ → Value → Prop) (h : Heap) (a : Addr) (L : List (Value × κ)) (es : Array (Int × Value)) (ep : Nat) (t : SetTable) : Prop where
  ob : ∃ o, h.get? a = some o ∧ o.ExactSet ∧ o.data = .set es ep t
  rows : es.toList = rowsG hash L
  tab : TabG t (L.map fun p => hash p.2)
  nd : (L.map (·.2)).Nodup
  mem : ∀ p ∈ L, Is h p.2 p.1
  plain : t.plain = true
  led : w.params.followText "set-order" = true ∨ t.led = true
  room : L.length * 5 < t.mask * 3
variable {a : Addr} {L : List (Value × κ)} {es : Array (Int × Value)} {ep : Nat} {t : SetTable}
theorem SetG.size (R : SetG w hash Is s.heap a L es ep t) : es.size = L.length := by
  have h := congrArg List.length R.rows
  simpa [rowsG] using h
theorem SetG.placed (R : SetG w hash Is s.heap a L es ep t) : t.place.size = L.length := by
  have h := R.tab.many
  simpa using h
theorem SetG.fits (R : SetG w hash Is s.heap a L es ep t) : t.fits es.size = true := by
  have h1 := R.placed
  have h2 := R.size
  have h3 := R.room
  unfold SetTable.fits SetTable.fill
  rw [R.tab.clean, Bool.and_eq_true, beq_iff_eq, decide_eq_true_eq]
  refine ⟨by omega, ?_⟩
  show t.place.size + 0 ≤ t.mask
  omega
theorem SetG.entry (R : SetG w hash Is s.heap a L es ep t) {i : Nat} {p : Value × κ} (h : L[i]? = some p) : es[i]? = some (hash p.2, p.1) := by
  rw [← Array.getElem?_toList, R.rows, rowsG, List.getElem?_map, h]
  rfl
theorem odd_mask {m : Nat} (h : MaskG m) : m % 2 = 1 := by
  obtain ⟨k, hk, e⟩ := h
  obtain ⟨j, rfl⟩ : ∃ j, k = j + 1 := ⟨k - 1, by omega⟩
  rw [Nat.pow_succ] at e
  omega
theorem SetG.real (R : SetG w hash Is s.heap a L es ep t) : ¬ t.gaveWay = true := by
  unfold SetTable.gaveWay
  rw [odd_mask R.tab.mask]
  decide
/-- the search for x, standing at the c-th step of its way -/
theorem search_on (G : KindG P w A κ hash Is) (R : SetG w hash Is s.heap a L es ep t) {x : Value} {k : κ} (hx : Is s.heap k x) {K : Nat} (hKf : K < 10 * SetTable.turns t.mask)
    (free : way t.mask (hash k) K ∉ t.place.toList) (full : ∀ c, c < K → way t.mask (hash k) c ∈ t.place.toList) {Q : SetFound → Shared → Prop}
    (hin : k ∈ L.map (·.2) → Q (.there none) s) (hout : k ∉ L.map (·.2) → Q (.free (way t.mask (hash k) K) false) s) :
    ∀ (f c : Nat) (stand : Option SetTable.Probe), stand.getD (t.probeStart (hash k)) = nth t.mask (runAt t.mask (SetTable.bits (hash k) % (t.mask + 1)) (SetTable.bits (hash k))) c → c ≤ K → K - c < f →
      (∀ (i : Nat) p, L[i]? = some p → p.2 = k → ∃ c', c ≤ c' ∧ c' < K ∧ t.place.toList[i]? = some (way t.mask (hash k) c')) →
      wpAny (model P w) A (setSearchFrom a x (hash k) true f stand) Q E s := by
  intro f
  induction f with
  | zero => exact fun c stand _ _ hf => absurd hf (Nat.not_lt_zero _)
  | succ f ih =>
    intro c stand hst hc hf ahead
    obtain ⟨o, ho, hex, hd⟩ := R.ob
    obtain ⟨st0, est⟩ : ∃ st0, st0 = runAt t.mask (SetTable.bits (hash k) % (t.mask + 1)) (SetTable.bits (hash k)) := ⟨_, rfl⟩
    have wy : ∀ n, way t.mask (hash k) n = (nth t.mask st0 n).j := fun n => by rw [est]
    rw [← est] at hst
    have shift : ∀ n, nth t.mask (nth t.mask st0 c) n = nth t.mask st0 (c + n) := fun n => (nth_add t.mask c st0 n).symm
    have nodummy : ∀ n, (nth t.mask st0 n).dummy = none := by
      intro n
      induction n with
      | zero => rw [est]; rfl
      | succ n ihn =>
        rw [nth_succ]
        unfold adv
        split <;> exact ihn
    rw [setSearchFrom_succ]
    refine wpAny_bind (wpAny_setState_of ho hd R.fits ?_)
    dsimp only
    refine wp_if_neg R.real ?_
    try refine wpAny_bind (wpAny_pure ?_)
    have hashAt : ∀ (i : Nat) p, L[i]? = some p → (es[i]?.map (·.1)).getD 0 = hash p.2 := fun i p hp => by rw [R.entry hp]; rfl
    have spec := go_spec t R.tab.rise R.tab.clean (fun i => (es[i]?.map (·.1)).getD 0) (hash k) (10 * SetTable.turns t.mask) (K - c) (nth t.mask st0 c) (nodummy c) (by omega)
      (fun n lt => by rw [shift, ← wy]; exact full (c + n) (by omega)) (by rw [shift, ← wy, show c + (K - c) = K by omega]; exact free)
    rcases spec with ⟨n, i, ltn, hi, eqh, before, met⟩ | ⟨before, met⟩
    · have met2 : t.probe (fun i => (es[i]?.map (·.1)).getD 0) (hash k) (stand.getD (t.probeStart (hash k))) = some (.candidate (way t.mask (hash k) (c + n)) i (nth t.mask st0 (c + (n + 1)))) := by
        rw [hst, wy, ← shift, ← shift]
        exact met
      rw [met2]
      dsimp only
      rw [shift, ← wy] at hi
      have il : i < L.length := by
        have z := (List.getElem?_eq_some_iff.mp hi).1
        rw [Array.length_toList, R.placed] at z
        exact z
      obtain ⟨p, hp⟩ : ∃ p, L[i]? = some p := ⟨_, List.getElem?_eq_getElem il⟩
      have pm := List.mem_of_getElem? hp
      have pis := R.mem p pm
      have rest : wpAny (model P w) A (searchRest a x (hash k) true f es t (way t.mask (hash k) (c + n)) i (nth t.mask st0 (c + (n + 1)))) Q E s := by
        unfold searchRest
        rw [R.entry hp]
        dsimp only
        refine wpAny_bind (wpAny_holding (G.eq pis hx ?_))
        refine wpAny_bind (wpAny_setState_of ho hd R.fits ?_)
        dsimp only
        by_cases same : p.2 = k
        · refine wp_if_pos (by simp [same]) ?_
          exact wpAny_pure (hin (List.mem_map.mpr ⟨p, pm, same⟩))
        · refine wp_if_neg (by simp [same]) ?_
          try refine wpAny_bind (wpAny_pure ?_)
          rw [sameMem]
          dsimp only
          have sl := slot_live R.tab.rise hi
          simp only [if_true, sl, R.entry hp]
          refine wpAny_bind (G.self pis (wpAny_bind (wpAny_pure ?_)))
          simp only [if_true]
          refine wp_if_neg (by simp [same]) ?_
          refine ih (c + (n + 1)) (some (nth t.mask st0 (c + (n + 1)))) (by rw [← est]; rfl) (by omega) (by omega) fun i0 p0 h0 e0 => ?_
          obtain ⟨c', a1, a2, a3⟩ := ahead i0 p0 h0 e0
          refine ⟨c', Classical.byContradiction fun z => ?_, a2, a3⟩
          have z : c' ≤ c + n := by omega
          rcases Nat.lt_or_ge c' (c + n) with lt | ge
          · refine before (c' - c) i0 (by omega) ?_ ((hashAt i0 p0 h0).trans (by rw [e0]))
            rw [shift, ← wy, show c + (c' - c) = c' by omega]
            exact a3
          · obtain rfl : c' = c + n := by omega
            have s0 := slot_live R.tab.rise a3
            rw [sl] at s0
            cases s0
            rw [hp] at h0
            cases h0
            exact same e0
      by_cases ld : t.led = true
      · refine wp_if_neg (by simp [ld]) ?_
        try refine wpAny_bind (wpAny_pure ?_)
        exact rest
      · refine wp_if_pos (by simp [ld]) ?_
        refine wpAny_bind (G.seen hx (fun y hy => ?_) ?_)
        · obtain ⟨q, hq, rfl⟩ := List.mem_map.mp hy
          have q1 : q ∈ es ∧ q.1 = hash k := by simpa using hq
          have q2 : q ∈ es.toList := by simpa using q1.1
          rw [R.rows] at q2
          obtain ⟨p2, m2, rfl⟩ := List.mem_map.mp q2
          exact ⟨p2.2, R.mem p2 m2⟩
        · refine wp_if_neg (by decide) ?_
          try refine wpAny_bind (wpAny_pure ?_)
          exact rest
    · have met2 : t.probe (fun i => (es[i]?.map (·.1)).getD 0) (hash k) (stand.getD (t.probeStart (hash k))) = some (.empty (way t.mask (hash k) K) none) := by
        rw [hst, wy, ← show c + (K - c) = K by omega, ← shift]
        exact met
      rw [met2]
      dsimp only
      refine wpAny_pure (hout fun m => ?_)
      obtain ⟨p0, m0, e0⟩ := List.mem_map.mp m
      obtain ⟨i0, l0, z0⟩ := List.getElem_of_mem m0
      have h0 : L[i0]? = some p0 := by rw [List.getElem?_eq_getElem l0, z0]
      obtain ⟨c', a1, a2, a3⟩ := ahead i0 p0 h0 e0
      refine before (c' - c) i0 (by omega) ?_ ((hashAt i0 p0 h0).trans (by rw [e0]))
      rw [shift, ← wy, show c + (c' - c) = c' by omega]
      exact a3
end
end Pt

/-! sets of any kind of value: one more member -/
namespace Pt
open PySem PySem.Spec PyProof.Rows L2
/-- the masks that come by adding one by one, up to some 78,000 members -/
def MaskS (m : Nat) : Prop := m = 7 ∨ m = 31 ∨ m = 127 ∨ m = 511 ∨ m = 2047 ∨ m = 8191 ∨ m = 32767 ∨ m = 131071
theorem MaskS.g {m : Nat} (h : MaskS m) : MaskG m := by
  rcases h with h | h | h | h | h | h | h | h <;> subst h
  · exact ⟨3, by decide, rfl⟩
  · exact ⟨5, by decide, rfl⟩
  · exact ⟨7, by decide, rfl⟩
  · exact ⟨9, by decide, rfl⟩
  · exact ⟨11, by decide, rfl⟩
  · exact ⟨13, by decide, rfl⟩
  · exact ⟨15, by decide, rfl⟩
  · exact ⟨17, by decide, rfl⟩
theorem grow {m n : Nat} (h : MaskS m) (before : n * 5 < m * 3) (now : (n + 1) * 5 ≥ m * 3) (few : n < 78000) :
    ∃ M, SetTable.sizeAbove (SetTable.grown (n + 1)) - 1 = M ∧ MaskS M ∧ (n + 1) * 5 < M * 3 ∧ SetTable.sizeAbove (SetTable.grown (n + 1)) ≤ 131072 ∧ m ≤ M ∧ (n + 1 < 4915 → M ≤ 8191) := by
  rcases h with h | h | h | h | h | h | h | h <;> subst h
  · obtain rfl : n = 4 := by omega
    exact ⟨31, by decide +kernel, by unfold MaskS; omega, by decide, by decide +kernel, by decide, fun _ => by decide⟩
  · obtain rfl : n = 18 := by omega
    exact ⟨127, by decide +kernel, by unfold MaskS; omega, by decide, by decide +kernel, by decide, fun _ => by decide⟩
  · obtain rfl : n = 76 := by omega
    exact ⟨511, by decide +kernel, by unfold MaskS; omega, by decide, by decide +kernel, by decide, fun _ => by decide⟩
  · obtain rfl : n = 306 := by omega
    exact ⟨2047, by decide +kernel, by unfold MaskS; omega, by decide, by decide +kernel, by decide, fun _ => by decide⟩
  · obtain rfl : n = 1228 := by omega
    exact ⟨8191, by decide +kernel, by unfold MaskS; omega, by decide, by decide +kernel, by decide, fun _ => by decide⟩
  · obtain rfl : n = 4914 := by omega
    exact ⟨32767, by decide +kernel, by unfold MaskS; omega, by decide, by decide +kernel, by decide, fun h => by omega⟩
  · obtain rfl : n = 19660 := by omega
    exact ⟨131071, by decide +kernel, by unfold MaskS; omega, by decide, by decide +kernel, by decide, fun h => by omega⟩
  · omega
section
variable {P : Program} {w : World} {A : Around} {E : Value → Shared → Prop} {s : Shared} {κ : Type} [DecidableEq κ] {hash : κ → Int} {Is : Heap → κ → Value → Prop}
theorem range_all {α : Type} (L : List α) : (List.range L.length).filterMap (fun i => L[i]?) = L := by
  have key : ∀ n, n ≤ L.length → (List.range n).filterMap (fun i => L[i]?) = L.take n := by
    intro n
    induction n with
    | zero => intro _; simp
    | succ n ih =>
      intro h
      rw [List.range_succ, List.filterMap_append, ih (by omega), List.take_add_one]
      have e : L[n]? = some L[n] := List.getElem?_eq_getElem (by omega)
      simp [e]
  rw [key _ (Nat.le_refl _), List.take_length]
theorem order_on {L : List (Value × κ)} {es : Array (Int × Value)} (order : Array Nat) (hr : es.toList = rowsG hash L) (hp : order.toList.Perm (List.range L.length)) :
    ∃ L2, (order.filterMap (es[·]?)).toList = rowsG hash L2 ∧ L2.Perm L ∧ L2.map (fun p => hash p.2) = order.toList.map fun i => (es.map (·.1)).getD i 0 := by
  have at_ : ∀ i : Nat, es[i]? = (L[i]?).map fun p => (hash p.2, p.1) := fun i => by rw [← Array.getElem?_toList, hr, rowsG, List.getElem?_map]
  refine ⟨order.toList.filterMap (fun i => L[i]?), ?_, ?_, ?_⟩
  · rw [Array.toList_filterMap, rowsG, List.map_filterMap]
    congr 1
    funext i
    exact at_ i
  · have z := hp.filterMap (fun i => L[i]?)
    rw [range_all] at z
    exact z
  · have key : ∀ o : List Nat, (∀ i ∈ o, i < L.length) → (o.filterMap (fun i => L[i]?)).map (fun p => hash p.2) = o.map fun i => (es.map (·.1)).getD i 0 := by
      intro o
      induction o with
      | nil => intro _; rfl
      | cons i o ih =>
        intro h
        have lt := h i List.mem_cons_self
        have e : L[i]? = some L[i] := List.getElem?_eq_getElem lt
        rw [List.filterMap_cons, e]
        show hash L[i].2 :: _ = (es.map (·.1)).getD i 0 :: _
        rw [ih fun j hj => h j (List.mem_cons_of_mem _ hj)]
        congr 1
        rw [Array.getD_eq_getD_getElem?, Array.getElem?_map, at_, e]
        rfl
    exact key _ fun i hi => List.mem_range.mp (hp.mem_iff.mp hi)
variable {a : Addr} {L : List (Value × κ)} {es : Array (Int × Value)} {ep : Nat} {t : SetTable}
theorem relay_core (still : ∀ {h h' : Heap} {k : κ} {u : Value} {a : Addr} {o : Obj} {es : Array (Int × Value)} {ep : Nat} {t : SetTable}, Is h k u → h.get? a = some o → o.data = .set es ep t → Heap.SameBut a h h' → Is h' k u) {o : Obj} (ho : s.heap.get? a = some o) (hex : o.ExactSet) (hd : o.data = .set es ep t) (hrows : es.toList = rowsG hash L) (hsz : t.place.size = es.size) (hdm : t.dummies = #[]) (hfl : es.size ≤ t.mask)
    (nd : (L.map (·.2)).Nodup) (mem : ∀ p ∈ L, Is s.heap p.2 p.1) (pl : t.plain = true) (ld : w.params.followText "set-order" = true ∨ t.led = true) {wanted M : Nat}
    (hw : SetTable.sizeAbove wanted - 1 = M) (hM : MaskG M) (line : SetTable.sizeAbove wanted ≤ 131072) (room : L.length * 5 < M * 3) (le : L.length ≤ 100000) {Q : Unit → Shared → Prop}
    (hQ : ∀ h' L' es' ep' t', Heap.SameBut a s.heap h' → SetG w hash Is h' a L' es' ep' t' → t'.mask = M → L'.Perm L → Q () { s with heap := h' }) : wpAny (model P w) A (setRelay a wanted) Q E s := by
  have sl : es.size = L.length := by
    have h := congrArg List.length hrows
    simpa [rowsG] using h
  have fits : t.fits es.size = true := by
    unfold SetTable.fits SetTable.fill
    rw [hdm, Bool.and_eq_true, beq_iff_eq, decide_eq_true_eq]
    refine ⟨hsz, ?_⟩
    show t.place.size + 0 ≤ t.mask
    omega
  obtain ⟨t', order, e, hp, T, em, el, ep'⟩ := relay_more t (hs := es.map (·.1)) (wanted := wanted) hw hM (by rw [Array.size_map, sl]; omega)
  rw [Array.size_map, sl] at hp
  obtain ⟨L2, r1, r2, r3⟩ := order_on order hrows hp
  rw [← r3] at T
  have s2 : (order.filterMap (es[·]?)).size = es.size := by
    have h := congrArg List.length r1
    rw [rowsG, List.length_map, r2.length_eq, Array.length_toList] at h
    omega
  rw [setRelay_eq]
  refine wpAny_bind (wpAny_setState_of ho hd fits ?_)
  dsimp only
  refine wp_if_neg (by rw [sizeLine_eq]; omega) ?_
  try refine wpAny_bind (wpAny_pure ?_)
  rw [e]
  dsimp only
  refine wpAny_bind ?_
  refine wp_if_neg (by rw [s2]; simp) ?_
  try refine wpAny_bind (wpAny_pure ?_)
  refine wpAny_pure ?_
  dsimp only
  refine wpAny_storeSet_of ho hd ?_ (by rw [s2, sl, sizeLine_eq]; omega)
  have sb : Heap.SameBut a s.heap (s.heap.update a (Obj.putSet (order.filterMap (es[·]?)) t')) := Heap.SameBut.update ..
  refine hQ _ L2 (order.filterMap (es[·]?)) (ep + 1) t' sb ⟨⟨_, store_at ho hd, ⟨hex.1, hex.2.1, hex.2.2⟩, rfl⟩, r1, T, (r2.map (·.2)).nodup_iff.mpr nd, fun p hpm => still (mem p (r2.mem_iff.mp hpm)) ho hd sb, by rw [ep']; exact pl, by rw [el]; exact ld, ?_⟩ em r2
  rw [r2.length_eq, em]
  exact room
theorem relay_on (G : KindG P w A κ hash Is) {o : Obj} (ho : s.heap.get? a = some o) (hex : o.ExactSet) (hd : o.data = .set es ep t) (hrows : es.toList = rowsG hash L) (hsz : t.place.size = es.size) (hdm : t.dummies = #[]) (hfl : es.size ≤ t.mask)
    (nd : (L.map (·.2)).Nodup) (mem : ∀ p ∈ L, Is s.heap p.2 p.1) (pl : t.plain = true) (ld : w.params.followText "set-order" = true ∨ t.led = true) {wanted M : Nat}
    (hw : SetTable.sizeAbove wanted - 1 = M) (hM : MaskG M) (line : SetTable.sizeAbove wanted ≤ 131072) (room : L.length * 5 < M * 3) (le : L.length ≤ 100000) {Q : Unit → Shared → Prop}
    (hQ : ∀ h' L' es' ep' t', Heap.SameBut a s.heap h' → SetG w hash Is h' a L' es' ep' t' → t'.mask = M → L'.Perm L → Q () { s with heap := h' }) : wpAny (model P w) A (setRelay a wanted) Q E s :=
  relay_core (Is := Is) G.still ho hex hd hrows hsz hdm hfl nd mem pl ld hw hM line room le hQ
end
end Pt

/-! sets of any kind of value: add -/
namespace Pt
open PySem PySem.Spec PyProof.Rows L2
section
variable {P : Program} {w : World} {A : Around} {E : Value → Shared → Prop} {s : Shared} {κ : Type} [DecidableEq κ] {hash : κ → Int} {Is : Heap → κ → Value → Prop}
variable {a : Addr} {L : List (Value × κ)} {es : Array (Int × Value)} {ep : Nat} {t : SetTable}
/-- the search from the start: the hundred thousand turns do -/
theorem search_all (G : KindG P w A κ hash Is) (R : SetG w hash Is s.heap a L es ep t) (short : t.mask ≤ 8191) {x : Value} {k : κ} (hx : Is s.heap k x) {Q : SetFound → Shared → Prop} (hin : k ∈ L.map (·.2) → Q (.there none) s)
    (hout : ∀ K, k ∉ L.map (·.2) → way t.mask (hash k) K ∉ t.place.toList → (∀ c, c < K → way t.mask (hash k) c ∈ t.place.toList) → Q (.free (way t.mask (hash k) K) false) s) :
    wpAny (model P w) A (setSearch a x (hash k) true) Q E s := by
  have room := R.room
  obtain ⟨K, lt, free, full⟩ := R.tab.gap (by rw [List.length_map]; omega) (hash k)
  have few : K < 100000 := by
    unfold SetTable.turns at lt
    omega
  unfold setSearch
  refine search_on G R hx lt free full hin (fun no => hout K no free full) 100000 0 none rfl (Nat.zero_le _) (by omega) fun i p hp hk => ?_
  have hi : (L.map fun p => hash p.2)[i]? = some (hash k) := by rw [List.getElem?_map, hp, ← hk]; rfl
  have il : i < t.place.toList.length := by
    have z := (List.getElem?_eq_some_iff.mp hp).1
    rw [R.tab.many, List.length_map]
    exact z
  have hj := List.getElem?_eq_getElem il
  obtain ⟨c, hc, e⟩ := R.tab.ahead free hi hj
  exact ⟨c, Nat.zero_le _, hc, by rw [hj, e]⟩
theorem add_on (G : KindG P w A κ hash Is) (R : SetG w hash Is s.heap a L es ep t) (ms : MaskS t.mask) (short : t.mask ≤ 8191) {x : Value} {k : κ} (hx : Is s.heap k x) (noscan : byScan x es = false) (top : L.length + 1 < 4915) {Q : Bool → Shared → Prop}
    (hQ : ∀ b h' L' es' ep' t', Heap.SameBut a s.heap h' → SetG w hash Is h' a L' es' ep' t' → MaskS t'.mask → t'.mask ≤ 8191 → (k ∈ L.map (·.2) → L' = L) → (k ∉ L.map (·.2) → L'.Perm ((x, k) :: L)) → Q b { s with heap := h' }) :
    wpAny (model P w) A (setAddHashed a x (hash k)) Q E s := by
  obtain ⟨o, ho, hex, hd⟩ := R.ob
  have sl := R.size
  have room := R.room
  unfold setAddHashed
  refine wpAny_holding ?_
  rw [show (100000 : Nat) = 99999 + 1 from rfl, setAddHashedIn_succ]
  refine wpAny_bind (wpAny_setState_of ho hd R.fits ?_)
  dsimp only
  refine wp_if_neg (by rw [noscan]; decide) ?_
  try refine wpAny_bind (wpAny_pure ?_)
  refine wpAny_bind (search_all G R short hx (fun m => ?_) fun K no free full => ?_)
  · dsimp only
    exact wpAny_pure (hQ false s.heap L es ep t (Heap.SameBut.refl a s.heap) R ms short (fun _ => rfl) fun z => absurd m z)
  · dsimp only
    refine wpAny_bind (wpAny_setState_of ho hd R.fits ?_)
    dsimp only
    obtain ⟨pl, T1⟩ := R.tab.put free full
    have mk1 : (t.put (way t.mask (hash k) K)).1.mask = t.mask := rfl
    have ld1 : (t.put (way t.mask (hash k) K)).1.led = t.led := rfl
    have pn1 : (t.put (way t.mask (hash k) K)).1.plain = true := R.plain
    have at1 : (t.put (way t.mask (hash k) K)).2 = SetTable.below t.place (way t.mask (hash k) K) := rfl
    generalize t.put (way t.mask (hash k) K) = pt at T1 mk1 ld1 pn1 at1 ⊢
    obtain ⟨t1, p⟩ := pt
    dsimp only at T1 mk1 ld1 pn1 at1 ⊢
    subst at1
    first
      | (refine wpAny_bind ?_; refine wp_if_pos pn1 ?_; refine G.value hx ?_)
      | refine wp_if_pos pn1 (wpAny_bind (G.value hx ?_))
    simp only [if_true]
    generalize SetTable.below t.place (way t.mask (hash k) K) = p at pl T1 ⊢
    have pm := put_perm L p (x, k)
    have len1 : (L.take p ++ (x, k) :: L.drop p).length = L.length + 1 := pm.length_eq
    have hs1 : (L.take p ++ (x, k) :: L.drop p).map (fun p => hash p.2) = (L.map fun p => hash p.2).take p ++ hash k :: (L.map fun p => hash p.2).drop p := by
      rw [List.map_append, List.map_cons, List.map_take, List.map_drop]
    have rows1 : (SetTable.insertAt es p (hash k, x)).toList = rowsG hash (L.take p ++ (x, k) :: L.drop p) := by
      rw [SetTable.toList_insertAt, R.rows, rowsG, rowsG, List.map_append, List.map_cons, List.map_take, List.map_drop]
    rw [← hs1] at T1
    have nd1 : ((L.take p ++ (x, k) :: L.drop p).map (·.2)).Nodup := (pm.map (·.2)).nodup_iff.mpr (by rw [List.map_cons]; exact List.nodup_cons.mpr ⟨no, R.nd⟩)
    have es1 : (SetTable.insertAt es p (hash k, x)).size = L.length + 1 := by
      have h := congrArg List.length rows1
      rw [rowsG, List.length_map, len1, Array.length_toList] at h
      exact h
    generalize SetTable.insertAt es p (hash k, x) = es2 at rows1 es1 ⊢
    generalize L.take p ++ (x, k) :: L.drop p = L1 at pm len1 T1 nd1 rows1
    refine wpAny_bind (wpAny_storeSet_of ho hd ?_ (by rw [es1, sizeLine_eq]; omega))
    have sb : Heap.SameBut a s.heap (s.heap.update a (Obj.putSet es2 t1)) := Heap.SameBut.update ..
    have ho1 := store_at (es' := es2) (t' := t1) ho hd
    generalize s.heap.update a (Obj.putSet es2 t1) = h1 at sb ho1 ⊢
    have mem1 : ∀ p ∈ L1, Is h1 p.2 p.1 := fun p hp => by
      rcases List.mem_cons.mp (pm.mem_iff.mp hp) with e | hp
      · rw [e]; exact G.still hx ho hd sb
      · exact G.still (R.mem p hp) ho hd sb
    have led1 : w.params.followText "set-order" = true ∨ t1.led = true := by rw [ld1]; exact R.led
    have many1 : t1.place.size = L.length + 1 := by
      have z := T1.many
      rw [List.length_map, len1, Array.length_toList] at z
      exact z
    have full1 : t1.tooFull = decide ((L.length + 1) * 5 ≥ t.mask * 3) := by
      unfold SetTable.tooFull SetTable.fill
      rw [T1.clean, many1, mk1]
      rfl
    by_cases hf : t1.tooFull = true
    · first
        | (refine wpAny_bind ?_; refine wp_if_pos (by simp [hf]) ?_)
        | (refine wp_if_pos (by simp [hf]) ?_; refine wpAny_bind ?_)
      rw [full1, decide_eq_true_eq] at hf
      obtain ⟨M, z1, z2, z3, z4, z5, z6⟩ := grow ms room hf (by omega)
      rw [sl]
      refine relay_on (s := { s with heap := h1 }) G ho1 ⟨hex.1, hex.2.1, hex.2.2⟩ rfl rows1 (by rw [many1, es1]) T1.clean (by rw [es1, mk1]; omega) nd1 mem1 pn1 led1 z1 z2.g z4 (by rw [len1]; exact z3) (by omega) ?_
      intro h2 L2 es3 ep2 t2 sb2 R2 em pm2
      refine wpAny_pure (hQ true h2 L2 es3 ep2 t2 (sb.trans sb2) R2 (by rw [em]; exact z2) (by rw [em]; exact z6 top) (fun z => absurd z no) fun _ => pm2.trans pm)
    · first
        | refine wp_if_neg (by simp [hf]) ?_
        | (refine wpAny_bind ?_; refine wp_if_neg (by simp [hf]) ?_; refine wpAny_pure ?_)
      refine wpAny_pure (hQ true h1 L1 es2 (ep + 1) t1 sb ⟨⟨_, ho1, ⟨hex.1, hex.2.1, hex.2.2⟩, rfl⟩, rows1, T1, nd1, mem1, pn1, led1, ?_⟩ (by rw [mk1]; exact ms) (by rw [mk1]; exact short) (fun z => absurd z no) fun _ => pm)
      rw [full1, decide_eq_true_eq] at hf
      rw [len1, mk1]
      omega
end
end Pt

/-! set(list of tuples of ints), under 4915 of them -/
namespace Pt
open PySem PySem.Spec PyProof.Rows L2
section
variable {P : Program} {w : World} {A : Around} {E : Value → Shared → Prop} {s : Shared}
/-- a value that is a tuple of the ints k -/
def IsV (P : Program) (w : World) (h : Heap) (k : List Int) (v : Value) : Prop := ∃ b, v = .ref b ∧ IsT P w h k b
theorem IsV.keep {h h' : Heap} {k : List Int} {v : Value} (x : IsV P w h k v) (kp : ∀ c o, h.get? c = some o → h'.get? c = some o) : IsV P w h' k v := by
  obtain ⟨b, e, o, its, n, ho, r⟩ := x
  exact ⟨b, e, o, its, n, kp b o ho, r⟩
theorem kind_tup (hu : A.units < cLine) : KindG P w A (List Int) (thash P w) (IsV P w) where
  eq := by
    rintro E s u v k k' Q ⟨b, rfl, hb⟩ ⟨c, rfl, hc⟩ q
    exact wpAny_eqBool_tuple hu hb hc (by simpa using q)
  seen := by
    rintro E s u k ys Q ⟨b, rfl, hb⟩ hy q
    refine seen_tup hb (fun y m => ?_) q
    obtain ⟨k', c, e, hc⟩ := hy y m
    exact ⟨k', c, e, hc⟩
  self := by
    rintro E s u k Q ⟨b, rfl, hb⟩ q
    exact wpAny_isSame_ref_self q
  value := by
    rintro E s u k Q ⟨b, rfl, hb⟩ q
    exact hashBy_tup hb q
  still := by
    rintro h h' k u a o es ep t ⟨b, rfl, hb⟩ ho hd sb
    exact ⟨b, rfl, isT_same hb ho hd sb⟩
/-- what the set has got of the first i -/
structure Taken {κ : Type} (kv : List (Value × κ)) (i : Nat) (L : List (Value × κ)) : Prop where
  sub : ∀ q ∈ L, q ∈ kv.take i
  all : ∀ q ∈ kv.take i, q.2 ∈ L.map (·.2)
  len : L.length ≤ i
theorem Taken.next {κ : Type} [DecidableEq κ] {kv L L' : List (Value × κ)} {i : Nat} {q : Value × κ} (g : Taken kv i L) (h : kv[i]? = some q) (old : q.2 ∈ L.map (·.2) → L' = L) (new : q.2 ∉ L.map (·.2) → L'.Perm ((q.1, q.2) :: L)) : Taken kv (i + 1) L' := by
  have e : kv.take (i + 1) = kv.take i ++ [q] := by rw [List.take_add_one, h]; rfl
  by_cases c : q.2 ∈ L.map (·.2)
  · obtain rfl := old c
    refine ⟨fun r hr => ?_, fun r hr => ?_, Nat.le_succ_of_le g.len⟩
    · rw [e]
      exact List.mem_append_left _ (g.sub r hr)
    · rw [e] at hr
      rcases List.mem_append.mp hr with z | z
      · exact g.all r z
      · rw [List.mem_singleton.mp z]
        exact c
  · have pm := new c
    refine ⟨fun r hr => ?_, fun r hr => ?_, ?_⟩
    · rw [e]
      rcases List.mem_cons.mp (pm.mem_iff.mp hr) with z | z
      · rw [z]
        exact List.mem_append_right _ (by simp)
      · exact List.mem_append_left _ (g.sub r z)
    · rw [(pm.map (·.2)).mem_iff]
      rw [e] at hr
      rcases List.mem_append.mp hr with z | z
      · exact List.mem_cons_of_mem _ (g.all r z)
      · rw [List.mem_singleton.mp z]
        exact List.mem_cons_self
    · rw [pm.length_eq, List.length_cons]
      exact Nat.succ_le_succ g.len
/-- a set of tuples, with a table that comes by adding -/
def SetV (P : Program) (w : World) (h : Heap) (a : Addr) (L : List (Value × List Int)) : Prop := ∃ es ep t, SetG w (thash P w) (IsV P w) h a L es ep t ∧ MaskS t.mask ∧ t.mask ≤ 8191 ∧ ∀ x ∈ es, ∃ b, x.2 = Value.ref b
theorem SetV.keep {h h' : Heap} {a : Addr} {L : List (Value × List Int)} (R : SetV P w h a L) (kp : ∀ o, h.get? a = some o → h'.get? a = some o) (mem : ∀ p ∈ L, IsV P w h' p.2 p.1) : SetV P w h' a L := by
  obtain ⟨es, ep, t, R, ms, sh, rf⟩ := R
  obtain ⟨o, ho, r⟩ := R.ob
  exact ⟨es, ep, t, ⟨⟨o, kp o ho, r⟩, R.rows, R.tab, R.nd, mem, R.plain, R.led, R.room⟩, ms, sh, rf⟩
theorem refs_of {h : Heap} {a : Addr} {L : List (Value × List Int)} {es : Array (Int × Value)} {ep : Nat} {t : SetTable} (R : SetG w (thash P w) (IsV P w) h a L es ep t) : ∀ x ∈ es, ∃ b, x.2 = Value.ref b := fun x hx => by
  have m : x ∈ es.toList := by simpa using hx
  rw [R.rows] at m
  obtain ⟨p, hp, rfl⟩ := List.mem_map.mp m
  obtain ⟨b, e, _⟩ := R.mem p hp
  exact ⟨b, e⟩
theorem setV_new {h : Heap} {a : Addr} (ho : h.get? a = some (Pw.newSetObj w)) : SetV P w h a [] := by
  refine ⟨#[], 0, .fresh 0 0 (!w.params.followText "set-order"), ⟨⟨_, ho, ⟨rfl, rfl, rfl⟩, rfl⟩, rfl, ⟨List.Pairwise.nil, rfl, rfl, ⟨3, by decide, rfl⟩, (fun x hx => nomatch hx), (fun i h j hi => by simp at hi)⟩, List.nodup_nil, (fun p hp => nomatch hp), rfl, ?_, ?_⟩, .inl rfl, (by show 7 ≤ 8191; decide), (fun x hx => by simp at hx)⟩
  · show _ ∨ (!w.params.followText "set-order") = true
    cases w.params.followText "set-order"
    · exact .inr rfl
    · exact .inl rfl
  · show 0 * 5 < 7 * 3
    decide
theorem SetV.add (hu : A.units < cLine) {a : Addr} {L : List (Value × List Int)} (R : SetV P w s.heap a L) {x : Value} {k : List Int} (hx : IsV P w s.heap k x) (top : L.length + 1 < 4915) {Q : Bool → Shared → Prop}
    (hQ : ∀ b h' L', Heap.SameBut a s.heap h' → SetV P w h' a L' → (k ∈ L.map (·.2) → L' = L) → (k ∉ L.map (·.2) → L'.Perm ((x, k) :: L)) → Q b { s with heap := h' }) : wpAny (model P w) A (setAddHashed a x (thash P w k)) Q E s := by
  obtain ⟨es, ep, t, R, ms, sh, rf⟩ := R
  obtain ⟨b, rfl, hb⟩ := id hx
  refine add_on (kind_tup hu) R ms sh hx (by simp [byScan, Value.scannable]) top fun b h' L' es' ep' t' sb R2 m2 s2 c1 c2 => hQ b h' L' sb ⟨es', ep', t', R2, m2, s2, refs_of R2⟩ c1 c2
end
end Pt

/-! set(list of tuples of ints): the call -/
namespace Pt
open PySem PySem.Spec PyProof.Rows L2
open Pw (newSetObj)
section
variable {P : Program} {w : World} {A : Around} {E : Value → Shared → Prop} {s : Shared}
theorem update_tups {I : Addr} {fp wr : List Addr} {G : Array GenState → Array GenState → Prop} {n : Nat} {Pv : Nat → Value → Prop} {St : Nat → Shared → Prop} {R : Result → Shared → Prop}
    (W : WalksS P w A.in1 I fp wr G n Pv St) (S : Addr) (away : S ∉ fp) (kv : List (Value × List Int)) (hn : n = kv.length) (few : kv.length < 4914) (val : ∀ i v, Pv i v → ∃ q, kv[i]? = some q ∧ v = q.1)
    (h0 : Heap) (mem : ∀ q ∈ kv, IsV P w h0 q.2 q.1) (S0 : h0.get? S = none) (wr0 : ∀ b ∈ wr, h0.get? b = none) (hu : A.in1.units < cLine) :
    ∀ (k i : Nat) (s : Shared), n - i = k → i ≤ n → St i s → (∀ b o, h0.get? b = some o → s.heap.get? b = some o) → (∃ L, SetV P w s.heap S L ∧ Taken kv i L) →
      (∀ s' L, Moved (S :: wr) G s s' → SetV P w s'.heap S L → Taken kv n L → (∀ b o, h0.get? b = some o → s'.heap.get? b = some o) → R (.ok (.ret .none)) s') →
      codeAny (model P w) A (.builtin "set.update.loop" ⟨[.ref S, .ref I], []⟩) R s := by
  have Sw : S ∉ wr := fun h => away (W.sub _ h)
  have wide : ∀ b ∈ wr, b ∈ S :: wr := fun b hb => List.mem_cons_of_mem _ hb
  have kept : ∀ {s s' : Shared}, Moved wr G s s' → (∀ b o, h0.get? b = some o → s.heap.get? b = some o) → ∀ b o, h0.get? b = some o → s'.heap.get? b = some o := fun mv kp b o e =>
    mv.heap b o (fun hb => by rw [wr0 b hb] at e; cases e) (kp b o e)
  intro k
  induction k with
  | zero =>
    intro i s ek le st kp ⟨L, V, g⟩ fin
    obtain rfl : i = n := by omega
    refine codeAny_builtin F.entry_set_update_loop ?_
    rw [Around.under_plainId F.plain_set_update_loop _]
    show wpAny _ A.in1 (pyNext (.ref I) >>= _) _ _ s
    refine wpAny_bind (W.done s _ _ st fun s' mv => ?_)
    have kp' := kept mv kp
    exact wpAny_pure (fin s' L (mv.mono wide) (V.keep (fun o e => mv.heap S o Sw e) fun q hq => (mem q (List.mem_of_mem_take (g.sub q hq))).keep kp') g kp')
  | succ k ih =>
    intro i s ek le st kp ⟨L, V, g⟩ fin
    have lt : i < n := by omega
    refine codeAny_builtin F.entry_set_update_loop ?_
    rw [Around.under_plainId F.plain_set_update_loop _]
    show wpAny _ A.in1 (pyNext (.ref I) >>= _) _ _ s
    refine wpAny_bind (W.item i s _ _ lt st fun v s' hP st' mv => ?_)
    obtain ⟨q, hq, rfl⟩ := val i v hP
    have kp' := kept mv kp
    have V' : SetV P w s'.heap S L := V.keep (fun o e => mv.heap S o Sw e) fun r hr => (mem r (List.mem_of_mem_take (g.sub r hr))).keep kp'
    have hx : IsV P w s'.heap q.2 q.1 := (mem q (List.mem_of_getElem? hq)).keep kp'
    obtain ⟨b, eb, hb⟩ := id hx
    rw [eb] at hx ⊢
    show wpAny _ A.in1 (holding [Value.ref b] (setAdd S (.ref b)) >>= _) _ _ s'
    refine wpAny_bind (wpAny_holding ?_)
    unfold setAdd
    refine wpAny_holding (wpAny_bind (wpAny_pyHash_tuple hu hb ?_))
    refine SetV.add (s := { s' with toks := s'.toks + (q.2.length + 1) }) hu V' hx (by have := g.len; omega) fun bo h' L' sb V2 c1 c2 => ?_
    have g' : Taken kv (i + 1) L' := g.next hq c1 (by rw [eb]; exact c2)
    have kp2 : ∀ c o, h0.get? c = some o → h'.get? c = some o := fun c o e => (sb.2 c fun z => by rw [z, S0] at e; cases e).trans (kp' c o e)
    refine wpAny_pure ⟨plainId_quiet F.plain_set_update_loop _, ih (i + 1) _ (by omega) lt (W.frame _ s' _ _ st' (Nat.le_add_right _ _) fun c hc o e => ?_) kp2 ⟨L', V2, g'⟩ fun s2 L2 mv2 V3 g3 kp3 => ?_⟩
    · exact (sb.2 c fun z => away (z ▸ hc)).trans e
    · refine fin s2 L2 (Moved.trans W.gtrans ((mv.mono wide).then_heap (Nat.le_add_right _ _) fun c o hc e => ?_) mv2) V3 g3 kp3
      exact (sb.2 c fun z => hc (z ▸ List.mem_cons_self)).trans e
/-- what is known once the tuples are in -/
def FilledT (P : Program) (w : World) (h : Heap) (S : Addr) (kv : List (Value × List Int)) (h' : Heap) : Prop := ∃ L, SetV P w h' S L ∧ Taken kv kv.length L ∧ ∀ b o, b ≠ S → h.get? b = some o → h'.get? b = some o
theorem fillT {S l : Addr} {its : Array Value} {kv : List (Value × List Int)} {h0 : Heap} (calm : A.handled = none) (new : s.heap.get? S = some (newSetObj w)) (ne : S ≠ l) (li : s.heap.IsList l its) (ok : its.toList = kv.map (·.1)) (few : kv.length < 4914)
    (mem : ∀ q ∈ kv, IsV P w h0 q.2 q.1) (S0 : h0.get? S = none) (top0 : h0.objs.size ≤ s.heap.objs.size) (kp0 : ∀ b o, h0.get? b = some o → s.heap.get? b = some o) (hu : A.units + 3 < cLine) :
    codeAny (model P w) A (.call (.builtin "set.__init__") ⟨[.ref S, .ref l], []⟩) (wants (fun r s2 => r = .none ∧ ∃ h' tk, s2 = { s with heap := h', toks := tk } ∧ FilledT P w s.heap S kv h') E) s := by
  refine codeAny_call_builtin F.called_set.init.plain F.entry_set_init (check_set_init_1 (s := s) ⟨_, new, rfl⟩ ?_)
  have lenI : its.size = kv.length := by
    have z := congrArg List.length ok
    rw [List.length_map, Array.length_toList] at z
    exact z
  obtain ⟨⟨c0, d0, dt0, sl0⟩, ho, hc, n0, hd⟩ := id li
  dsimp only at hc hd
  cases hc
  cases hd
  have a1 := F.sub_list_set
  have a2 := F.sub_list_frozenset
  have a3 : (Value.type "list" == Value.type "dict") = false := by decide
  unfold Builtin.«set.__init__» noKeywords Builtin.Frozenset.updateFrom
  generalize hit : pyIter = walk
  wp_walk
  subst hit
  refine wpAny_pyIter_list li (wpAny_bind (wpAny_runValue ?_))
  obtain ⟨it, eit⟩ : ∃ it, s.heap.objs.size = it := ⟨_, rfl⟩
  have ltS : S < it := eit ▸ Heap.lt_size new
  have ltl : l < it := eit ▸ Heap.lt_size ho
  have away : S ∉ [it, l] := fun m => (List.mem_cons.mp m).elim (fun e => absurd e (Nat.ne_of_lt ltS)) fun m => absurd (List.mem_singleton.mp m) ne
  have calm3 : A.in1.in1.handled = none := by simp [calm]
  have it0 : h0.get? it = none := by
    cases z : h0.get? it with
    | none => rfl
    | some o =>
      exact absurd (Nat.lt_of_lt_of_le (Heap.lt_size z) top0) (by rw [eit]; exact Nat.lt_irrefl it)
  rw [eit]
  refine update_tups (Walks.list (by simpa using calm3) it l (Nat.ne_of_lt ltl) its).toS S away kv lenI few ?val h0 mem S0 (fun b hb => by rw [List.mem_singleton.mp hb]; exact it0) ?hu its.size 0 _ rfl (Nat.zero_le _)
    ⟨⟨_, by rw [← eit]; exact Heap.get?_push_size _ rfl, rfl, rfl⟩, li.push _⟩ (fun b o e => Heap.get?_push_of_some _ (kp0 b o e)) ⟨[], setV_new (Heap.get?_push_of_some _ new), ⟨(fun q h => nomatch h), (fun q h => absurd h (by simp)), Nat.le_refl _⟩⟩ fun s2 L mv hV g kp => ?_
  case val =>
    intro i v e
    have e2 : its.toList[i]? = some v := by rw [Array.getElem?_toList, e]
    rw [ok, List.getElem?_map, Option.map_eq_some_iff] at e2
    obtain ⟨q, a, b⟩ := e2
    exact ⟨q, a, b.symm⟩
  case hu =>
    first
      | exact hu
      | (show A.units + 1 + 1 + 1 < cLine; omega)
      | (simp only [Around.in1]; omega)
      | (have z := hu; simpa using z)
  obtain ⟨h2, g2, d2, t2, o2⟩ := s2
  cases mv.gens
  cases mv.drawn
  cases mv.os
  refine wpAny_pure (wpAny_pure ⟨rfl, h2, t2, rfl, L, hV, lenI ▸ g, fun b o nb e => ?_⟩)
  have ltb : b < it := eit ▸ Heap.lt_size e
  refine mv.heap b o (fun m => ?_) (Heap.get?_push_of_some _ e)
  rcases List.mem_cons.mp m with q | q
  · exact nb q
  · exact absurd (List.mem_singleton.mp q) (Nat.ne_of_lt ltb)
end
end Pt

/-! set(list of pairs): as a call of a tracked list -/
namespace Pt
open PySem PySem.Spec PyProof.Rows L2
open Pw (newSetObj)
section
variable {P : Program} {w : World} {A : Around} {E : Value → Shared → Prop} {s : Shared}
theorem set_of_tups {l : Addr} {its : Array Value} (kv : List (Value × List Int)) {Q : Value → Shared → Prop} (calm : A.handled = none) (hu : A.units + 8 < cLine) (li : s.heap.IsList l its) (ok : its.toList = kv.map (·.1)) (few : kv.length < 4914) (mem : ∀ q ∈ kv, IsV P w s.heap q.2 q.1)
    (q : ∀ (h' : Heap) (tk : Nat) (L : List (Value × List Int)), SetV P w h' s.heap.objs.size L → Taken kv kv.length L → (∀ b o, s.heap.get? b = some o → h'.get? b = some o) → Q (.ref s.heap.objs.size) { s with heap := h', toks := tk }) : wpAny (model P w) A (call (.type "set") [.ref l]) Q E s := by
  have ft := F.called_set
  obtain ⟨c, tl, m1⟩ := ft.mro
  have m2 := ft.made
  have m3 := ft.sub
  have m4 := ft.notType
  have m5 := ft.canCreate
  have m6 := F.typeCall_set_1 (.ref l)
  have m7 := ft.init.lookup
  have ltl : l < s.heap.objs.size := by
    obtain ⟨_, e, _⟩ := li
    exact Heap.lt_size e
  obtain ⟨s1, e1⟩ : ∃ s1 : Shared, s1 = { s with heap := s.heap.push (newSetObj w) } := ⟨_, rfl⟩
  have new : s1.heap.get? s.heap.objs.size = some (newSetObj w) := by rw [e1]; exact Heap.get?_push_size _ rfl
  have isT : s1.TypeIs (.ref s.heap.objs.size) "set" := ⟨_, new, rfl⟩
  have m8 := ft.init.bind (.ref s.heap.objs.size)
  have none0 : s.heap.get? s.heap.objs.size = none := by
    cases z : s.heap.get? s.heap.objs.size with
    | none => rfl
    | some o => exact absurd (Heap.lt_size z) (Nat.lt_irrefl _)
  refine wpAny_call (codeAny_of_tree (show wpAny _ _ (callAny (.type "set") _) _ _ s from ?_))
  refine (wpAny_pure ⟨Code.quiet_builtin _ (by decide +kernel), codeAny_builtin F.entry_type_call ?_⟩)
  rw [Around.under_plain (weight_type_call_type "set" [.ref l] []) rfl]
  repeat (any_goals (first | assumption | wp_step))
  refine codeAny_mono (code_set_led1 (E := E) (.ref l) (Q₁ := fun x y => x = .ref s.heap.objs.size ∧ y = s1) ⟨rfl, e1.symm⟩) fun r y z => ?_
  match r, z with
  | .error _, z => exact z
  | .ok (.ret _), ⟨hx, hy⟩ =>
    subst hx hy
    repeat (any_goals (first | assumption | wp_step))
    refine codeAny_mono (fillT (E := E) (kv := kv) (h0 := s.heap) (s := y) (by simpa using calm) new (Nat.ne_of_gt ltl) (by rw [e1]; exact li.push _) ok few mem none0 (by rw [e1]; exact Nat.le_of_lt (by rw [Heap.size_push]; exact Nat.lt_succ_self _)) (fun b o e => by rw [e1]; exact Heap.get?_push_of_some _ e) ?hu) fun r2 y2 z2 => ?_
    case hu =>
      first
        | (show A.units + 1 + 3 < cLine; omega)
        | (show A.units + 2 + 3 < cLine; omega)
        | (simp; omega)
    match r2, z2 with
    | .error _, z2 => exact z2
    | .ok (.ret _), ⟨hr, h2, t2, hy2, L, hV, g, hk⟩ =>
      subst hr hy2
      repeat (any_goals (first | assumption | wp_step))
      subst e1
      exact q h2 t2 L hV g fun b o e => hk b o (Nat.ne_of_lt (Heap.lt_size e)) (Heap.get?_push_of_some _ e)
/-- the set at a, without the tuples themselves -/
def SetW (P : Program) (w : World) (h : Heap) (a : Addr) (L : List (Value × List Int)) : Prop := ∃ (es : Array (Int × Value)) (ep : Nat) (t : SetTable), (∃ o, h.get? a = some o ∧ o.ExactSet ∧ o.data = .set es ep t) ∧ es.toList = rowsG (thash P w) L ∧ TabG t (L.map fun p => thash P w p.2) ∧
  (L.map (·.2)).Nodup ∧ t.plain = true ∧ (w.params.followText "set-order" = true ∨ t.led = true) ∧ L.length * 5 < t.mask * 3
theorem SetV.bare {h : Heap} {a : Addr} {L : List (Value × List Int)} (R : SetV P w h a L) : SetW P w h a L := by
  obtain ⟨es, ep, t, R, _⟩ := R
  exact ⟨es, ep, t, R.ob, R.rows, R.tab, R.nd, R.plain, R.led, R.room⟩
def SetVO (P : Program) (w : World) (a : Addr) (L : List (Value × List Int)) : HO := .ext fun h => SetW P w h a L
theorem setVO_new {H : Hp} {h : Heap} {a : Addr} {L : List (Value × List Int)} (R : SetW P w h a L) : ObjOk P w H h a (SetVO P w a L) := by
  have ⟨_, _, _, ⟨o, ho, _⟩, _⟩ := R
  refine ⟨R, ⟨o, ho⟩, fun h1 h2 p k => ?_⟩
  have ⟨es', ep', t', ⟨o', ho', r'⟩, q'⟩ := p
  exact ⟨es', ep', t', ⟨o', k o' ho', r'⟩, q'⟩
end
open Pw (PairsAt vp)
/-- a pair's key -/
abbrev k2 (z : Nat × Nat) : List Int := [(z.1 : Int), (z.2 : Int)]
/-- the members, told by tracked pairs -/
def Told (H : Hp) (ws : List (Nat × Nat)) (L : List (Value × List Int)) : Prop := (∀ q ∈ L, ∃ b z, q = (Value.ref b, k2 z) ∧ H b = some (vp z) ∧ z ∈ ws) ∧ (∀ z ∈ ws, k2 z ∈ L.map (·.2)) ∧ L.length ≤ ws.length
/-- set(l), l a list of pairs -/
def rSetVP (K : PySem.W.Frag) (P : Program) (w : World) : List V → Hp → VK → Prop := fun vs H Q => ∃ (l : Addr) (ps : List Addr) (ws : List (Nat × Nat)), vs = [.ref l] ∧ SqL K H l (ps.map V.ref) ∧ PairsAt H ps ws ∧ ws.length < 4000 ∧
  ∀ (a : Addr) (L : List (Value × List Int)), H a = none → Told H ws L → Q (.ref a) (upd H a (SetVO P w a L))
theorem refs_back2 : ∀ {ps : List Addr} {us : List Value}, Vals (ps.map V.ref) us → us = ps.map Value.ref
  | [], _, .nil => rfl
  | p :: ps, _, .cons r t => by
    cases r
    rw [refs_back2 t]
    rfl
theorem cr_setVP {X : Cx} (calm : X.calm = true) (hu : X.A.units + 64 < cLine) : CallR X (.type "set") (rSetVP X.K X.prog X.w) := by
  intro pins s σ H vs us Q I r asked
  obtain ⟨l, ps, ws, rfl, hq, hw, few, q⟩ := asked
  rw [Vals.ref1 r]
  obtain ⟨its, rv, pl, _⟩ := I.list hq
  have ez := refs_back2 rv
  obtain ⟨kv, ekv⟩ : ∃ kv, kv = (ps.zip ws).map fun z => (Value.ref z.1, k2 z.2) := ⟨_, rfl⟩
  have len : kv.length = ws.length := by rw [ekv, List.length_map, List.length_zip, hw.1, Nat.min_self]
  have ok : its.toArray.toList = kv.map (·.1) := by
    show its = kv.map (·.1)
    rw [ez, ekv, List.map_map]
    have e2 : (fun z : Addr × (Nat × Nat) => Value.ref z.1) = Value.ref ∘ Prod.fst := rfl
    show _ = (ps.zip ws).map (fun z : Addr × (Nat × Nat) => Value.ref z.1)
    rw [e2, ← List.map_map, List.map_fst_zip (Nat.le_of_eq hw.1)]
  have at_ : ∀ q ∈ kv, ∃ b z, q = (Value.ref b, k2 z) ∧ H b = some (vp z) ∧ z ∈ ws := by
    intro q hq
    rw [ekv] at hq
    obtain ⟨⟨b, z⟩, m, rfl⟩ := List.mem_map.mp hq
    obtain ⟨i, hi, e⟩ := List.getElem_of_mem m
    have e2 : (ps.zip ws)[i]? = some (b, z) := by rw [List.getElem?_eq_getElem hi, e]
    rw [List.getElem?_zip_eq_some] at e2
    exact ⟨b, z, rfl, hw.2 i b z e2.1 e2.2, List.mem_of_getElem? e2.2⟩
  refine set_of_tups (P := X.prog) kv (I.ok.hd calm) (by omega) pl.isList ok (by omega) (fun q hq => ?_) fun h' tk L V g k => ?_
  · obtain ⟨b, z, rfl, hb, _⟩ := at_ q hq
    exact ⟨b, rfl, I.isT (k := k2 z) (SqT.of hb)⟩
  · have free : H s.heap.objs.size = none := I.hok.fresh (Nat.le_refl _)
    refine ⟨.ref s.heap.objs.size, _, I.laid (t' := tk) k (Nat.le_refl _) (setVO_new V.bare), rfl, q _ L free ⟨fun q hq => ?_, fun z hz => ?_, by rw [← len]; exact g.len⟩⟩
    · exact at_ q (by have := g.sub q hq; rw [List.take_length] at this; exact this)
    · obtain ⟨i, hi, rfl⟩ := List.getElem_of_mem hz
      have hp : i < ps.length := by rw [hw.1]; exact hi
      refine g.all (Value.ref ps[i], k2 ws[i]) ?_
      rw [List.take_length, ekv]
      refine List.mem_map.mpr ⟨(ps[i], ws[i]), ?_, rfl⟩
      refine List.mem_of_getElem? (i := i) ?_
      rw [List.getElem?_zip_eq_some]
      exact ⟨List.getElem?_eq_getElem hp, List.getElem?_eq_getElem hi⟩
end Pt

/-! sorted of a set of pairs, under 4000 of them -/
namespace Pt
open PySem PySem.Spec PyProof.Rows L2
open Pw (PairsAt vp kyH kyN kyH_of kyN_of)
/-- the order of pairs -/
abbrev LexLt (x y : Nat × Nat) : Prop := x.1 < y.1 ∨ (x.1 = y.1 ∧ x.2 < y.2)
/-- the address behind a value -/
def adr : Value → Addr
  | .ref a => a
  | _ => 0
def rSortedVP (P : Program) (w : World) : List V → Hp → VK → Prop := fun vs H Q => ∃ (a : Addr) (L : List (Value × List Int)) (ws : List (Nat × Nat)), vs = [.ref a] ∧ H a = some (SetVO P w a L) ∧ Told H ws L ∧ ws.length < 4000 ∧
  ∀ (p : Addr) (qs : List Addr) (zs : List (Nat × Nat)), H p = none → PairsAt H qs zs → zs.Pairwise LexLt → (∀ z, z ∈ zs ↔ z ∈ ws) → zs.length ≤ ws.length → Q (.ref p) (upd H p (.lst (qs.map V.ref)))
theorem cr_sortedVP {X : Cx} (calm : X.calm = true) : CallR X (.builtin "sorted") (rSortedVP X.prog X.w) := by
  intro pins s σ H vs us Q I r asked
  obtain ⟨a, L, ws, rfl, ha, ⟨told, all, le⟩, few, q⟩ := asked
  obtain ⟨es, ep, t, ⟨o, ho, hex, hd⟩, rows, tab, nd, plain, led, room⟩ : SetW X.prog X.w s.heap a L := (I.hok a _ ha).1
  have size : es.size = L.length := by
    have z := congrArg List.length rows
    simpa [rowsG] using z
  have fits : t.fits es.size = true := by
    have z := tab.many
    rw [List.length_map, Array.length_toList] at z
    unfold SetTable.fits SetTable.fill
    rw [tab.clean, Bool.and_eq_true, beq_iff_eq, decide_eq_true_eq]
    refine ⟨by omega, ?_⟩
    show t.place.size + 0 ≤ t.mask
    omega
  rw [Vals.ref1 r]
  refine Calls.call_function_entry PyProof.Rows.kind_sorted PyProof.Rows.plain_sorted PyProof.Rows.entry_sorted (PyProof.Rows.args_sorted1 _) ?_
  unfold Builtin.«sorted»
  refine wpAny_bind (m := checkCount "sorted" 1 1 _) (wpAny_pure ?_)
  refine wpAny_bind (collect_set (A := X.A.in1) (I.ok.hd calm) ⟨o, ho, hex.1, hd⟩ fits (by unfold scanBound; omega) tab.rise led fun s1 vs k1 hz g1 o1 pm => ?_)
  have pmL : vs.Perm (L.map (·.1)) := by
    have e : es.toList.map (·.2) = L.map (·.1) := by
      rw [rows, rowsG, List.map_map]
      rfl
    rw [← e]
    exact pm
  have each : ∀ v ∈ vs, ∃ b z, v = Value.ref b ∧ H b = some (vp z) ∧ z ∈ ws := fun v hv => by
    obtain ⟨x, hx, rfl⟩ := List.mem_map.mp (pmL.mem_iff.mp hv)
    obtain ⟨b, z, rfl, hb, hzw⟩ := told x hx
    exact ⟨b, z, rfl, hb, hzw⟩
  have vlen : vs.length = L.length := by rw [pmL.length_eq, List.length_map]
  have line : vs.length ≤ sizeLine := by rw [sizeLine_eq]; omega
  obtain ⟨key, ek⟩ : ∃ key : Value → Int × Int, key = fun v => kyH H (.ref (adr v)) := ⟨_, rfl⟩
  have hoL : (s1.heap.push (seqObj "list" vs.toArray 0)).get? s1.heap.objs.size = some (seqObj "list" vs.toArray 0) := Heap.get?_push_size _ rfl
  have pairs : ∀ v ∈ vs, Srt.IsPair (s1.heap.push (seqObj "list" vs.toArray 0)) v (key v).1 (key v).2 := fun v hv => by
    obtain ⟨b, z, rfl, hb, _⟩ := each v hv
    have e2 : key (.ref b) = ((z.1 : Int), (z.2 : Int)) := by rw [ek]; exact kyH_of hb
    rw [e2]
    obtain ⟨_, its, rv, o2, ho2, hc2, n2, hd2⟩ := I.hok _ _ hb
    cases rv with
    | cons r1 rr =>
      cases rr with
      | cons r2 rr =>
        cases rr
        obtain ⟨t1, rfl⟩ := r1
        obtain ⟨t2, rfl⟩ := r2
        exact ⟨b, o2, t1, t2, n2, rfl, Heap.get?_push_of_some _ (k1 _ _ ho2), hc2, hd2⟩
  refine wpAny_bind (wpAny_newList ?_ line)
  refine wpAny_bind (wpAny_holding (wpAny_call_entry PyProof.Rows.slot_list_sort ⟨_, hoL, rfl⟩ PyProof.Rows.entry_list_sort
    (SrtO.list_sort_ord (s := { s1 with heap := s1.heap.push (seqObj "list" vs.toArray 0) }) (SrtO.swo_lex key) hoL line (fun h2 => SrtO.pairs_sortableO (by omega) pairs fun o' e c => ?_) fun out h1 h2 => ⟨_, rfl, ?_⟩) (PyProof.Rows.args_list_sort _)))
  · have e' : some o' = some (seqObj "list" vs.toArray 0) := e.symm.trans hoL
    cases e'
    exact absurd (Value.type.inj c) (by decide)
  have eachO : ∀ v ∈ out, ∃ b z, v = Value.ref b ∧ H b = some (vp z) ∧ z ∈ ws := fun v hv => each v (h2.perm.mem_iff.mp hv)
  obtain ⟨qs, eqs⟩ : ∃ qs, qs = out.map adr := ⟨_, rfl⟩
  obtain ⟨zs, ezs⟩ : ∃ zs, zs = out.map fun v => kyN H (.ref (adr v)) := ⟨_, rfl⟩
  have eout : out = qs.map Value.ref := by
    rw [eqs, List.map_map]
    conv => lhs; rw [← List.map_id out]
    refine List.map_congr_left fun v hv => ?_
    obtain ⟨b, z, rfl, _⟩ := eachO v hv
    rfl
  have keyN : ∀ v ∈ out, key v = (((kyN H (.ref (adr v))).1 : Int), ((kyN H (.ref (adr v))).2 : Int)) := fun v hv => by
    obtain ⟨b, z, rfl, hb, _⟩ := eachO v hv
    rw [ek]
    show kyH H (.ref b) = _
    rw [kyH_of hb, show adr (.ref b) = b from rfl, kyN_of hb]
  have pa : PairsAt H qs zs := by
    refine ⟨by rw [eqs, ezs, List.length_map, List.length_map], fun i b z e1 e2 => ?_⟩
    rw [eqs, List.getElem?_map, Option.map_eq_some_iff] at e1
    rw [ezs, List.getElem?_map, Option.map_eq_some_iff] at e2
    obtain ⟨v, ev, rfl⟩ := e1
    obtain ⟨v2, ev2, rfl⟩ := e2
    obtain rfl : v = v2 := Option.some.inj (ev.symm.trans ev2)
    obtain ⟨b, z, rfl, hb, _⟩ := eachO v (List.mem_of_getElem? ev)
    show H b = some (vp (kyN H (.ref b)))
    rw [kyN_of hb]
    exact hb
  have keys : (zs.map k2).Perm (L.map (·.2)) := by
    have z := (h2.perm.trans pmL).map fun v => k2 (kyN H (.ref (adr v)))
    rw [List.map_map] at z
    have e1 : L.map ((fun v => k2 (kyN H (.ref (adr v)))) ∘ fun x => x.1) = L.map (·.2) := List.map_congr_left fun x hx => by
      obtain ⟨b, z, rfl, hb, _⟩ := told x hx
      show k2 (kyN H (.ref b)) = k2 z
      rw [kyN_of hb]
    rw [e1] at z
    rw [ezs, List.map_map]
    exact z
  have ndz : zs.Nodup := List.Pairwise.of_map k2 (fun _ _ ne e => ne (congrArg k2 e)) (keys.nodup_iff.mpr nd)
  have rise : zs.Pairwise LexLt := by
    have a1 : zs.Pairwise fun x y => ¬ LexLt y x := by
      rw [ezs, List.pairwise_map]
      refine h1.imp_of_mem fun {x y} hx hy h => ?_
      have z := SrtO.lexB_no.mp h
      rw [keyN x hx, keyN y hy] at z
      intro l
      refine z ?_
      show ((_ : Nat) : Int) < _ ∨ _
      rcases l with l | ⟨l, l2⟩
      · exact .inl (Int.ofNat_lt.mpr l)
      · exact .inr ⟨Int.ofNat_inj.mpr l, Int.ofNat_lt.mpr l2⟩
    refine (a1.and ndz).imp fun {x y} h => ?_
    obtain ⟨n1, n2⟩ := h
    have ne : x.1 ≠ y.1 ∨ x.2 ≠ y.2 := by
      rcases Classical.em (x.1 = y.1) with e | e
      · exact .inr fun e2 => n2 (Prod.ext e e2)
      · exact .inl e
    show x.1 < y.1 ∨ (x.1 = y.1 ∧ x.2 < y.2)
    have n3 : ¬ (y.1 < x.1 ∨ (y.1 = x.1 ∧ y.2 < x.2)) := n1
    omega
  have mems : ∀ z, z ∈ zs ↔ z ∈ ws := fun z => by
    constructor
    · intro hz'
      rw [ezs] at hz'
      obtain ⟨v, hv, rfl⟩ := List.mem_map.mp hz'
      obtain ⟨b, z, rfl, hb, hw⟩ := eachO v hv
      show kyN H (.ref b) ∈ ws
      rw [kyN_of hb]
      exact hw
    · intro hz'
      have m := keys.mem_iff.mpr (all z hz')
      obtain ⟨y, hy, e⟩ := List.mem_map.mp m
      have e1 := (List.cons.inj e).1
      have e2 := (List.cons.inj (List.cons.inj e).2).1
      have : y = z := Prod.ext (Int.ofNat.inj e1) (Int.ofNat.inj e2)
      rw [← this]
      exact hy
  have olen : out.length = L.length := by rw [h2.len, vlen]
  obtain ⟨cc, hcc⟩ := PyProof.Rows.sortedHeap_at (vs := vs) (out := out.toArray) hoL
  have free : H s1.heap.objs.size = none := I.hok.fresh hz
  have kept : ∀ b u, s.heap.get? b = some u → (sortedHeap (s1.heap.push (seqObj "list" vs.toArray 0)) s1.heap.objs.size vs out.toArray).get? b = some u := fun b u e => by
    have lt := Heap.lt_size (k1 b u e)
    rw [PyProof.Rows.sortedHeap_old (Nat.ne_of_lt lt) (by rw [size_push']; exact Nat.lt_succ_of_lt lt)]
    exact Heap.get?_push_of_some _ (k1 b u e)
  have vals : Vals (qs.map V.ref) out := by
    rw [eout]
    clear eqs ezs pa eout
    induction qs with
    | nil => exact .nil
    | cons b qs ih => exact .cons rfl ih
  have J : Inv X pins σ (upd H s1.heap.objs.size (.lst (qs.map V.ref))) { s with heap := sortedHeap (s1.heap.push (seqObj "list" vs.toArray 0)) s1.heap.objs.size vs out.toArray, gens := s1.gens, drawn := s1.drawn, toks := s1.toks } :=
    I.call (ch := []) (Un.laid kept hz free) (I.hok.laid kept hz ⟨by rw [List.length_map, eqs, List.length_map, sizeLine_eq]; omega, out, cc, vals, hcc⟩) (by rw [g1]; exact I.bare) (fun _ z => nomatch z)
  have e : ({ s1 with heap := sortedHeap (s1.heap.push (seqObj "list" vs.toArray 0)) s1.heap.objs.size vs out.toArray } : Shared) = { s with heap := sortedHeap (s1.heap.push (seqObj "list" vs.toArray 0)) s1.heap.objs.size vs out.toArray, gens := s1.gens, drawn := s1.drawn, toks := s1.toks } := by
    cases s1
    cases s
    cases o1
    rfl
  rw [← e] at J
  refine wpAny_pure ⟨_, rfl, .ref s1.heap.objs.size, _, J, rfl, q _ qs zs free pa rise mems (by rw [ezs, List.length_map]; omega)⟩
end Pt

/-! pairs of powers so far apart: contracts -/
namespace Pw
open PySem PySem.Spec PyProof.Rows L2 SX TL RZ Pt
/-- a pair of powers so far apart, both to most -/
def ApartP (D M : Nat) (z : Nat × Nat) : Prop := 1 ≤ z.1 ∧ z.2 = z.1 + D ∧ z.2 ≤ M ∧ Pm.IsPow z.1 ∧ Pm.IsPow z.2
def spIsSquare : Sp := fun vs H Q _ => ∃ n : Nat, vs = [.int (n : Int)] ∧ n < 2 ^ 4000 ∧ ∀ b : Bool, (b = true ↔ ∃ r, r * r = n) → Q (.bl b) H
/-- pairs of squares: all such, and nothing else but pairs of powers -/
def spSqApart : Sp := fun vs H Q _ => ∃ D M : Nat, vs = [.int (D : Int), .int (M : Int)] ∧ 1 ≤ D ∧ D ≤ 1002001 ∧ M ≤ 1000000000 ∧ ∀ (p : Addr) (H' : Hp) (qs : List Addr) (zs : List (Nat × Nat)), H p = none → Same H H' → H' p = some (.lst (qs.map V.ref)) → PairsAt H' qs zs → zs.length ≤ 1001 →
  (∀ z ∈ zs, ApartP D M z) → (∀ a b : Nat, 1 ≤ a → b * b = a * a + D → b * b ≤ M → (a * a, b * b) ∈ zs) → Q (.ref p) H'
def spOthApart : Sp := fun vs H Q _ => ∃ D M : Nat, vs = [.int (D : Int), .int (M : Int)] ∧ 1 ≤ D ∧ D ≤ 1002001 ∧ M ≤ 1000000000 ∧ ∀ (p : Addr) (H' : Hp) (qs : List Addr) (zs : List (Nat × Nat)), H p = none → Same H H' → H' p = some (.lst (qs.map V.ref)) → PairsAt H' qs zs → zs.length ≤ 2900 →
  (∀ z ∈ zs, ApartP D M z) → (∀ z, ApartP D M z → z ∈ zs ∨ ∃ a b : Nat, 1 ≤ a ∧ z = (a * a, b * b)) → Q (.ref p) H'
def spPairsApart : Sp := fun vs H Q _ => ∃ D M : Nat, vs = [.int (D : Int), .int (M : Int)] ∧ 1 ≤ D ∧ D ≤ 1002001 ∧ M ≤ 1000000000 ∧ ∀ (p : Addr) (H' : Hp) (qs : List Addr) (zs : List (Nat × Nat)), H p = none → Same H H' → H' p = some (.tup (qs.map V.ref)) → PairsAt H' qs zs → zs.Pairwise LexLt → zs.length ≤ 3901 →
  (∀ z, z ∈ zs ↔ ApartP D M z) → Q (.ref p) H'
def spOdd9 : Sp := fun vs H Q _ => ∃ n : Nat, vs = [.int (n : Int)] ∧ n ≤ 1000000000 ∧ ∀ (p : Addr) (H' : Hp) (l : List Nat), H p = none → Same H H' → H' p = some (.lst (nn l)) → l.length ≤ 1400 → (∀ m ∈ l, m ≤ n ∧ 1 ≤ m ∧ Pm.IsPow m) →
  (∀ b k, 2 ≤ b → 3 ≤ k → k % 2 = 1 → b ^ k ≤ n → b ^ k ∈ l) → Q (.ref p) H'
/-- how many odd powers the first i exponents may give -/
def oddMany : Nat → Nat
  | 0 => 0
  | 1 => 1000
  | i + 2 => 1063 + 19 * i
theorem odd_more {n i r : Nat} (h : Pm.IsRoot n (3 + 2 * i) r) (hn : n ≤ 1000000000) : oddMany i + (r - 1) ≤ oddMany (i + 1) := by
  have key : ∀ c e, c ^ e > 1000000000 → 1 ≤ c → 3 + 2 * i ≥ e → r < c := fun c e big c1 he => by
    refine Nat.lt_of_not_le fun z => ?_
    have h1 : c ^ e ≤ r ^ (3 + 2 * i) := Nat.le_trans (Nat.pow_le_pow_right c1 he) (Nat.pow_le_pow_left z _)
    have h2 := h.1
    omega
  rcases i with _ | _ | i
  · have := key 1001 3 (by decide) (by decide) (by omega)
    show 0 + (r - 1) ≤ 1000
    omega
  · have := key 64 5 (by decide) (by decide) (by omega)
    show 1000 + (r - 1) ≤ 1063 + 19 * 0
    omega
  · have := key 20 7 (by decide) (by decide) (by omega)
    show 1063 + 19 * i + (r - 1) ≤ 1063 + 19 * (i + 1)
    omega
theorem root_1000 {n e r : Nat} (h : Pm.IsRoot n e r) (hn : n ≤ 1000000000) (he : 3 ≤ e) : r ≤ 1000 := by
  refine Nat.le_of_not_lt fun z => ?_
  have h1 : 1001 ^ 3 ≤ r ^ e := Nat.le_trans (Nat.pow_le_pow_left z 3) (Nat.pow_le_pow_right (by omega) he)
  have h2 := h.1
  omega
theorem sq_split {a b D : Nat} (h : b * b = a * a + D) : D = (b - a) * (b + a) := by
  have h1 : a ≤ b := Nat.le_of_not_lt fun z => by
    have := Nat.mul_lt_mul'' z z
    omega
  obtain ⟨c, rfl⟩ : ∃ c, b = a + c := ⟨b - a, by omega⟩
  rw [show a + c - a = c by omega]
  have e : (a + c) * (a + c) = a * a + c * (a + c + a) := by
    rw [Nat.mul_add c, Nat.mul_add c, Nat.add_mul, Nat.mul_add, Nat.mul_add, Nat.mul_comm c a]
    omega
  omega
theorem sq_join {l m : Nat} (h : l < m) (par : (l + m) % 2 = 0) : ((m + l) / 2) * ((m + l) / 2) = ((m - l) / 2) * ((m - l) / 2) + l * m ∧ 1 ≤ (m - l) / 2 := by
  obtain ⟨c, rfl⟩ : ∃ c, m = l + 2 * c := ⟨(m - l) / 2, by omega⟩
  have e1 : (l + 2 * c + l) / 2 = l + c := by omega
  have e2 : (l + 2 * c - l) / 2 = c := by omega
  rw [e1, e2]
  refine ⟨?_, by omega⟩
  rw [Nat.add_mul, Nat.mul_add, Nat.mul_add, Nat.mul_add, Nat.mul_left_comm l 2 c, Nat.mul_comm c l]
  omega
theorem sq_par {a b D : Nat} (h : b * b = a * a + D) : (b - a) % 2 = D % 2 := by
  have h1 : a ≤ b := Nat.le_of_not_lt fun z => by
    have := Nat.mul_lt_mul'' z z
    omega
  have p : ∀ c : Nat, c * c % 2 = c % 2 := fun c => by
    rcases Nat.mod_two_eq_zero_or_one c with e | e <;> simp [Nat.mul_mod, e]
  have pa := p a
  have pb := p b
  generalize a * a = x at *
  generalize b * b = y at *
  omega
/-- what the walk at l meets: just the pair with b - a = l -/
theorem sq_at {a b D l : Nat} (a1 : 1 ≤ a) (h : b * b = a * a + D) (e : b - a = l) (l1 : 1 ≤ l) : l * (D / l) = D ∧ l < D / l ∧ (l + D / l) % 2 = 0 ∧ (D / l - l) / 2 = a ∧ (D / l + l) / 2 = b := by
  have s := sq_split h
  rw [e] at s
  have d : D / l = b + a := by
    rw [s]
    exact Nat.mul_div_cancel_left _ (by omega)
  rw [d]
  refine ⟨s.symm, ?_, ?_, ?_, ?_⟩ <;> omega
theorem _root_.Pw.PairsAt.append {H : Hp} {ps ps' : List Addr} {ws ws' : List (Nat × Nat)} (h : PairsAt H ps ws) (h' : PairsAt H ps' ws') : PairsAt H (ps ++ ps') (ws ++ ws') := by
  refine ⟨by rw [List.length_append, List.length_append, h.1, h'.1], fun i a z e1 e2 => ?_⟩
  rcases Nat.lt_or_ge i ps.length with lt | ge
  · rw [List.getElem?_append_left lt] at e1
    rw [List.getElem?_append_left (by rw [← h.1]; exact lt)] at e2
    exact h.2 i a z e1 e2
  · rw [List.getElem?_append_right ge] at e1
    rw [List.getElem?_append_right (by rw [← h.1]; exact ge), ← h.1] at e2
    exact h'.2 _ a z e1 e2
end Pw

/-! a dict comprehension as a local name's new value -/
namespace Pt
open PySem PySem.Spec PyProof.Rows L2
section
variable {X : Cx}
theorem sw_dict {kx vx : Expr} {gs : List Comprehension} {scope : Scope} {pos py : Pos} {y : Str} {l : Nat} {env : Env} (fn : env.scope.kind = .function) (loc : env.scope.names.lookup y = some .local) (line : (py.line == pos.line) = true)
    (apart : (scope.names.any fun (n, k) => n == y && (k == .local || k == .cell)) = false) : swapsWith (.DictComp kx vx gs scope pos) (some (.Name y py)) l env = pure true := by
  have k1 : env.kindOf y = some .local := loc
  have k2 : env.blockKind = .function := by unfold Env.blockKind; rw [fn]; rfl
  unfold swapsWith
  simp only [k2, k1, apart, Expr.pos, line]
  rfl
theorem ps_setDc {i : Nat} {y : Str} {py : Pos} {kx vx tg iter : Expr} {ifs : List Expr} {scope : Scope} {own : List (Str × Nat)} {pos spos : Pos} {wi : TI} {g : TG} {tt : TT} {tk tv : TE} (calm : X.calm = true) (nd : X.N.Nodup) (at_ : X.N[i]? = some y) (loc : X.env.scope.names.lookup y = some .local)
    (sw : swapsWith (.DictComp kx vx [⟨tg, iter, ifs, 0⟩] scope pos) (some (.Name y py)) spos.line X.env = pure true) (walk : PI X tg iter wi) (blk : BlkOk X.N X.env.scope scope own)
    (hg : ∀ (s : Shared) (H : Hp) (C : Addr) (cl : List (Str × Addr)) (fp : List Addr), PG (X.blk s H scope (compEnvC scope cl C X.env) fp) tg g) (ht : ∀ (s : Shared) (H : Hp) (C : Addr) (cl : List (Str × Addr)) (fp : List Addr), PTs (X.blk s H scope (compEnvC scope cl C X.env) fp) ifs tt)
    (hk : ∀ (s : Shared) (H : Hp) (C : Addr) (cl : List (Str × Addr)) (fp : List Addr), PE (X.blk s H scope (compEnvC scope cl C X.env) fp) kx tk)
    (hv : ∀ (s : Shared) (H : Hp) (C : Addr) (cl : List (Str × Addr)) (fp : List Addr), PE (X.blk s H scope (compEnvC scope cl C X.env) fp) vx tv) (plain : ∀ x, foldedSetIterable iter X.env x = pure x := by intro _; rfl) :
    PS X (.Assign [.Name y py] (.DictComp kx vx [⟨tg, iter, ifs, 0⟩] scope pos) spos) (tAsg (tDc wi g tt tk tv (own.map (·.2))) (gName i)) := by
  refine ⟨fun pins s σ H D I asked => ?_⟩
  rw [exec_Assign_Name_used _ _ _ _ sw]
  refine wpAny_bind (wpAny_standAt (wpAny_bind ?_))
  show wpAny _ X.A (do let _ ← comprehension (.DictComp kx vx [⟨tg, iter, ifs, 0⟩] scope pos) scope X.env (firstIterPos [⟨tg, iter, ifs, 0⟩] pos) newDict false (eval iter X.env) (some (assign (.Name y py) X.env))) _ _ s
  have asked : tDc wi g tt tk tv (own.map (·.2)) σ H (fun x H1 => gName i x σ H1 D.nx) := asked
  refine wpAny_bind (thn (dc_core (Qf := fun _ s' => SP X pins D .next s') calm nd I walk blk hg ht hk hv plain asked fun L C s' m H' I' q hn f => ?_) fun _ s' hq => wpAny_pure (wpAny_pure hq))
  show wpAny _ _ (assign (.Name y py) X.env (.ref L)) _ _ _
  refine wpAny_assign_Name (store_ok2 (v := V.ref L) I' nd at_ (.inl loc) rfl (fun s2 I2 ⟨a, sb, ha⟩ => ?_) (.inr loc))
  obtain ⟨f0, f1, f2, f3, f4, f5⟩ := f
  have ne : C ≠ a := ha.elim (fun z => by rw [z]; exact f1) fun z e => f4 y a z e.symm
  exact ⟨m, hn.sameBut sb ne, fun h3 sb3 => ⟨_, H', I2.turned (t' := s2.toks) (fun b o hb e => (sb3.2 b hb).trans e) f0 f1 f3 f4 f5, q⟩⟩
end
/-- a dict comprehension over a list that stays -/
theorem dc_list {K : PySem.W.Frag} {a : Addr} {xs : List V} {g : TG} {tt : TT} {tk tv : TE} {vs : List Nat} {σ : L2.St} {H1 : Hp} {D : Addr} {Qd : Hp → Prop} (Pv : Nat → Hp → Prop) (first : Pv 0 (upd H1 D (.dK []))) (stays : ∀ i H, i ≤ xs.length → Pv i H → SqL K H a xs)
    (turn : ∀ i x H, xs[i]? = some x → Pv i H → g x (wipe σ vs) H fun σ2 H2 => wipe σ2 vs = wipe σ vs ∧ tt σ2 H2 fun b H3 =>
      if b = true then tk σ2 H3 fun y H4 => tv σ2 H4 fun z H5 => ∃ kvs k, y = kV k ∧ H5 D = some (.dK kvs) ∧ kvs.length < sizeLine ∧ Pv (i + 1) (upd H5 D (.dK (putK kvs k z))) else Pv (i + 1) H3) (last : ∀ H, Pv xs.length H → Qd H) :
    ∃ W : Nat → Nat → Hp → Prop, (∃ m, W 0 m (upd H1 D (.dK []))) ∧ ∀ i m H, W i m H →
      ((Itl K a).stop i H ∧ Qd H) ∨ ((Itl K a).go i H ∧ ∃ Nx : Hp → Prop, (∀ H', Nx H' → ∃ m', m' < m ∧ W (i + 1) m' H') ∧ ∀ x H', (Itl K a).yld i H x H' → g x (wipe σ vs) H' fun σ2 H2 => wipe σ2 vs = wipe σ vs ∧ tt σ2 H2 fun b H3 =>
        if b = true then tk σ2 H3 fun y H4 => tv σ2 H4 fun z H5 => ∃ kvs k, y = kV k ∧ H5 D = some (.dK kvs) ∧ kvs.length < sizeLine ∧ Nx (upd H5 D (.dK (putK kvs k z))) else Nx H3) := by
  refine ⟨fun i m H => m + i = xs.length ∧ Pv i H, ⟨xs.length, rfl, first⟩, fun i m H w => ?_⟩
  obtain ⟨e, p⟩ := w
  have sq := stays i H (by omega) p
  rcases Nat.eq_zero_or_pos m with z | z
  · obtain rfl : i = xs.length := by omega
    exact .inl ⟨⟨xs, sq, Nat.le_refl _⟩, last H p⟩
  · have lt : i < xs.length := by omega
    refine .inr ⟨⟨xs, xs[i], sq, by simp [lt]⟩, Pv (i + 1), fun G q => ⟨m - 1, by omega, by omega, q⟩, fun x G y => ?_⟩
    obtain ⟨rfl, y⟩ := y
    exact turn i x _ (y xs sq) p
end Pt

/-! set(tuple of pairs) -/
namespace Pt
open PySem PySem.Spec PyProof.Rows L2
open Pw (newSetObj)
section
variable {P : Program} {w : World} {A : Around} {E : Value → Shared → Prop} {s : Shared}
theorem fillTT {S l : Addr} {its : Array Value} {kv : List (Value × List Int)} {h0 : Heap} (calm : A.handled = none) (new : s.heap.get? S = some (newSetObj w)) (ne : S ≠ l) (li : s.heap.IsTuple l its) (ok : its.toList = kv.map (·.1)) (few : kv.length < 4914)
    (mem : ∀ q ∈ kv, IsV P w h0 q.2 q.1) (S0 : h0.get? S = none) (top0 : h0.objs.size ≤ s.heap.objs.size) (kp0 : ∀ b o, h0.get? b = some o → s.heap.get? b = some o) (hu : A.units + 3 < cLine) :
    codeAny (model P w) A (.call (.builtin "set.__init__") ⟨[.ref S, .ref l], []⟩) (wants (fun r s2 => r = .none ∧ ∃ h' tk, s2 = { s with heap := h', toks := tk } ∧ FilledT P w s.heap S kv h') E) s := by
  refine codeAny_call_builtin F.called_set.init.plain F.entry_set_init (check_set_init_1 (s := s) ⟨_, new, rfl⟩ ?_)
  have lenI : its.size = kv.length := by
    have z := congrArg List.length ok
    rw [List.length_map, Array.length_toList] at z
    exact z
  obtain ⟨⟨c0, d0, dt0, sl0⟩, ho, hc, n0, hd⟩ := id li
  dsimp only at hc hd
  cases hc
  cases hd
  have a1 := F.sub_tuple_set
  have a2 := F.sub_tuple_frozenset
  have a3 : (Value.type "tuple" == Value.type "dict") = false := by decide
  unfold Builtin.«set.__init__» noKeywords Builtin.Frozenset.updateFrom
  generalize hit : pyIter = walk
  wp_walk
  subst hit
  refine wpAny_pyIter_tuple li (wpAny_bind (wpAny_runValue ?_))
  obtain ⟨it, eit⟩ : ∃ it, s.heap.objs.size = it := ⟨_, rfl⟩
  have ltS : S < it := eit ▸ Heap.lt_size new
  have ltl : l < it := eit ▸ Heap.lt_size ho
  have away : S ∉ [it, l] := fun m => (List.mem_cons.mp m).elim (fun e => absurd e (Nat.ne_of_lt ltS)) fun m => absurd (List.mem_singleton.mp m) ne
  have calm3 : A.in1.in1.handled = none := by simp [calm]
  have it0 : h0.get? it = none := by
    cases z : h0.get? it with
    | none => rfl
    | some o =>
      exact absurd (Nat.lt_of_lt_of_le (Heap.lt_size z) top0) (by rw [eit]; exact Nat.lt_irrefl it)
  rw [eit]
  refine update_tups (Walks.tuple (by simpa using calm3) it l (Nat.ne_of_lt ltl) its).toS S away kv lenI few ?val h0 mem S0 (fun b hb => by rw [List.mem_singleton.mp hb]; exact it0) ?hu its.size 0 _ rfl (Nat.zero_le _)
    ⟨⟨_, by rw [← eit]; exact Heap.get?_push_size _ rfl, rfl, rfl⟩, li.push _⟩ (fun b o e => Heap.get?_push_of_some _ (kp0 b o e)) ⟨[], setV_new (Heap.get?_push_of_some _ new), ⟨(fun q h => nomatch h), (fun q h => absurd h (by simp)), Nat.le_refl _⟩⟩ fun s2 L mv hV g kp => ?_
  case val =>
    intro i v e
    have e2 : its.toList[i]? = some v := by rw [Array.getElem?_toList, e]
    rw [ok, List.getElem?_map, Option.map_eq_some_iff] at e2
    obtain ⟨q, a, b⟩ := e2
    exact ⟨q, a, b.symm⟩
  case hu =>
    first
      | exact hu
      | (show A.units + 1 + 1 + 1 < cLine; omega)
      | (simp only [Around.in1]; omega)
      | (have z := hu; simpa using z)
  obtain ⟨h2, g2, d2, t2, o2⟩ := s2
  cases mv.gens
  cases mv.drawn
  cases mv.os
  refine wpAny_pure (wpAny_pure ⟨rfl, h2, t2, rfl, L, hV, lenI ▸ g, fun b o nb e => ?_⟩)
  have ltb : b < it := eit ▸ Heap.lt_size e
  refine mv.heap b o (fun m => ?_) (Heap.get?_push_of_some _ e)
  rcases List.mem_cons.mp m with q | q
  · exact nb q
  · exact absurd (List.mem_singleton.mp q) (Nat.ne_of_lt ltb)
theorem set_of_tupsT {l : Addr} {its : Array Value} (kv : List (Value × List Int)) {Q : Value → Shared → Prop} (calm : A.handled = none) (hu : A.units + 8 < cLine) (li : s.heap.IsTuple l its) (ok : its.toList = kv.map (·.1)) (few : kv.length < 4914) (mem : ∀ q ∈ kv, IsV P w s.heap q.2 q.1)
    (q : ∀ (h' : Heap) (tk : Nat) (L : List (Value × List Int)), SetV P w h' s.heap.objs.size L → Taken kv kv.length L → (∀ b o, s.heap.get? b = some o → h'.get? b = some o) → Q (.ref s.heap.objs.size) { s with heap := h', toks := tk }) : wpAny (model P w) A (call (.type "set") [.ref l]) Q E s := by
  have ft := F.called_set
  obtain ⟨c, tl, m1⟩ := ft.mro
  have m2 := ft.made
  have m3 := ft.sub
  have m4 := ft.notType
  have m5 := ft.canCreate
  have m6 := F.typeCall_set_1 (.ref l)
  have m7 := ft.init.lookup
  have ltl : l < s.heap.objs.size := by
    obtain ⟨_, e, _⟩ := li
    exact Heap.lt_size e
  obtain ⟨s1, e1⟩ : ∃ s1 : Shared, s1 = { s with heap := s.heap.push (newSetObj w) } := ⟨_, rfl⟩
  have new : s1.heap.get? s.heap.objs.size = some (newSetObj w) := by rw [e1]; exact Heap.get?_push_size _ rfl
  have isT : s1.TypeIs (.ref s.heap.objs.size) "set" := ⟨_, new, rfl⟩
  have m8 := ft.init.bind (.ref s.heap.objs.size)
  have none0 : s.heap.get? s.heap.objs.size = none := by
    cases z : s.heap.get? s.heap.objs.size with
    | none => rfl
    | some o => exact absurd (Heap.lt_size z) (Nat.lt_irrefl _)
  refine wpAny_call (codeAny_of_tree (show wpAny _ _ (callAny (.type "set") _) _ _ s from ?_))
  refine (wpAny_pure ⟨Code.quiet_builtin _ (by decide +kernel), codeAny_builtin F.entry_type_call ?_⟩)
  rw [Around.under_plain (weight_type_call_type "set" [.ref l] []) rfl]
  repeat (any_goals (first | assumption | wp_step))
  refine codeAny_mono (code_set_led1 (E := E) (.ref l) (Q₁ := fun x y => x = .ref s.heap.objs.size ∧ y = s1) ⟨rfl, e1.symm⟩) fun r y z => ?_
  match r, z with
  | .error _, z => exact z
  | .ok (.ret _), ⟨hx, hy⟩ =>
    subst hx hy
    repeat (any_goals (first | assumption | wp_step))
    refine codeAny_mono (fillTT (E := E) (kv := kv) (h0 := s.heap) (s := y) (by simpa using calm) new (Nat.ne_of_gt ltl) (by rw [e1]; exact li.push _) ok few mem none0 (by rw [e1]; exact Nat.le_of_lt (by rw [Heap.size_push]; exact Nat.lt_succ_self _)) (fun b o e => by rw [e1]; exact Heap.get?_push_of_some _ e) ?hu) fun r2 y2 z2 => ?_
    case hu =>
      first
        | (show A.units + 1 + 3 < cLine; omega)
        | (show A.units + 2 + 3 < cLine; omega)
        | (simp; omega)
    match r2, z2 with
    | .error _, z2 => exact z2
    | .ok (.ret _), ⟨hr, h2, t2, hy2, L, hV, g, hk⟩ =>
      subst hr hy2
      repeat (any_goals (first | assumption | wp_step))
      subst e1
      exact q h2 t2 L hV g fun b o e => hk b o (Nat.ne_of_lt (Heap.lt_size e)) (Heap.get?_push_of_some _ e)
end
open Pw (PairsAt vp)
/-- set(l), l a tuple of pairs -/
def rSetVPT (K : PySem.W.Frag) (P : Program) (w : World) : List V → Hp → VK → Prop := fun vs H Q => ∃ (l : Addr) (ps : List Addr) (ws : List (Nat × Nat)), vs = [.ref l] ∧ SqT K H l (ps.map V.ref) ∧ PairsAt H ps ws ∧ ws.length < 4000 ∧
  ∀ (a : Addr) (L : List (Value × List Int)), H a = none → Told H ws L → Q (.ref a) (upd H a (SetVO P w a L))
theorem cr_setVPT {X : Cx} (calm : X.calm = true) (hu : X.A.units + 64 < cLine) : CallR X (.type "set") (rSetVPT X.K X.prog X.w) := by
  intro pins s σ H vs us Q I r asked
  obtain ⟨l, ps, ws, rfl, hq, hw, few, q⟩ := asked
  rw [Vals.ref1 r]
  obtain ⟨its, rv, pl, _⟩ := I.tuple hq
  have ez := refs_back2 rv
  obtain ⟨kv, ekv⟩ : ∃ kv, kv = (ps.zip ws).map fun z => (Value.ref z.1, k2 z.2) := ⟨_, rfl⟩
  have len : kv.length = ws.length := by rw [ekv, List.length_map, List.length_zip, hw.1, Nat.min_self]
  have ok : its.toArray.toList = kv.map (·.1) := by
    show its = kv.map (·.1)
    rw [ez, ekv, List.map_map]
    have e2 : (fun z : Addr × (Nat × Nat) => Value.ref z.1) = Value.ref ∘ Prod.fst := rfl
    show _ = (ps.zip ws).map (fun z : Addr × (Nat × Nat) => Value.ref z.1)
    rw [e2, ← List.map_map, List.map_fst_zip (Nat.le_of_eq hw.1)]
  have at_ : ∀ q ∈ kv, ∃ b z, q = (Value.ref b, k2 z) ∧ H b = some (vp z) ∧ z ∈ ws := by
    intro q hq
    rw [ekv] at hq
    obtain ⟨⟨b, z⟩, m, rfl⟩ := List.mem_map.mp hq
    obtain ⟨i, hi, e⟩ := List.getElem_of_mem m
    have e2 : (ps.zip ws)[i]? = some (b, z) := by rw [List.getElem?_eq_getElem hi, e]
    rw [List.getElem?_zip_eq_some] at e2
    exact ⟨b, z, rfl, hw.2 i b z e2.1 e2.2, List.mem_of_getElem? e2.2⟩
  refine set_of_tupsT (P := X.prog) kv (I.ok.hd calm) (by omega) pl ok (by omega) (fun q hq => ?_) fun h' tk L V g k => ?_
  · obtain ⟨b, z, rfl, hb, _⟩ := at_ q hq
    exact ⟨b, rfl, I.isT (k := k2 z) (SqT.of hb)⟩
  · have free : H s.heap.objs.size = none := I.hok.fresh (Nat.le_refl _)
    refine ⟨.ref s.heap.objs.size, _, I.laid (t' := tk) k (Nat.le_refl _) (setVO_new V.bare), rfl, q _ L free ⟨fun q hq => ?_, fun z hz => ?_, by rw [← len]; exact g.len⟩⟩
    · exact at_ q (by have := g.sub q hq; rw [List.take_length] at this; exact this)
    · obtain ⟨i, hi, rfl⟩ := List.getElem_of_mem hz
      have hp : i < ps.length := by rw [hw.1]; exact hi
      refine g.all (Value.ref ps[i], k2 ws[i]) ?_
      rw [List.take_length, ekv]
      refine List.mem_map.mpr ⟨(ps[i], ws[i]), ?_, rfl⟩
      refine List.mem_of_getElem? (i := i) ?_
      rw [List.getElem?_zip_eq_some]
      exact ⟨List.getElem?_eq_getElem hp, List.getElem?_eq_getElem hi⟩
end Pt

/-! the greatest gap as it grows; strictly rising pairs; contracts of k16 -/
namespace Pm
theorem bst_take (zs : List Nat) (j : Nat) : ∀ i, i + 1 ≤ j → bst (zs.take j) i = bst zs i
  | 0, _ => rfl
  | i + 1, h => by
    have e1 : (zs.take j)[i]? = zs[i]? := by rw [List.getElem?_take]; exact if_pos (by omega)
    have e2 : (zs.take j)[i + 1]? = zs[i + 1]? := by rw [List.getElem?_take]; exact if_pos (by omega)
    show (match (zs.take j)[i]?, (zs.take j)[i + 1]? with | some x, some y => stepG (bst (zs.take j) i) x y | _, _ => bst (zs.take j) i) = (match zs[i]?, zs[i + 1]? with | some x, some y => stepG (bst zs i) x y | _, _ => bst zs i)
    rw [e1, e2, bst_take zs j i (by omega)]
theorem stepG_some (o : Option (Nat × Nat × Nat)) (x y : Nat) : ∃ t, stepG o x y = some t := by
  cases o with
  | none => exact ⟨_, rfl⟩
  | some t =>
    obtain ⟨g, a, b⟩ := t
    show ∃ t, (if g < y - x then some (y - x, x, y) else some (g, a, b)) = some t
    split
    · exact ⟨_, rfl⟩
    · exact ⟨_, rfl⟩
theorem bst_from {zs : List Nat} : ∀ {i g a b}, i < zs.length → bst zs i = some (g, a, b) → ∃ k, k < i ∧ zs[k]? = some a ∧ zs[k + 1]? = some b ∧ g = b - a ∧ ∀ g' a' b', bst zs k = some (g', a', b') → g' < g
  | 0, _, _, _, _, h => nomatch h
  | i + 1, g, a, b, lt, h => by
    have hx : zs[i]? = some zs[i] := List.getElem?_eq_getElem (by omega)
    have hy : zs[i + 1]? = some zs[i + 1] := List.getElem?_eq_getElem lt
    rw [bst_succ hx hy] at h
    cases o : bst zs i with
    | none =>
      rw [o] at h
      obtain ⟨rfl, rfl, rfl⟩ : zs[i + 1] - zs[i] = g ∧ zs[i] = a ∧ zs[i + 1] = b := by
        have := Option.some.inj h
        simpa using this
      exact ⟨i, Nat.lt_succ_self _, hx, hy, rfl, fun g' a' b' e => by rw [o] at e; cases e⟩
    | some t =>
      obtain ⟨g0, a0, b0⟩ := t
      rw [o] at h
      have h : (if g0 < zs[i + 1] - zs[i] then some (zs[i + 1] - zs[i], zs[i], zs[i + 1]) else some (g0, a0, b0)) = some (g, a, b) := h
      by_cases z : g0 < zs[i + 1] - zs[i]
      · rw [if_pos z] at h
        obtain ⟨rfl, rfl, rfl⟩ : zs[i + 1] - zs[i] = g ∧ zs[i] = a ∧ zs[i + 1] = b := by
          have := Option.some.inj h
          simpa using this
        exact ⟨i, Nat.lt_succ_self _, hx, hy, rfl, fun g' a' b' e => by
          rw [o] at e
          cases e
          exact z⟩
      · rw [if_neg z] at h
        obtain ⟨rfl, rfl, rfl⟩ : g0 = g ∧ a0 = a ∧ b0 = b := by
          have := Option.some.inj h
          simpa using this
        obtain ⟨k, h1, h2⟩ := bst_from (by omega) o
        exact ⟨k, by omega, h2⟩
theorem bst_up {zs : List Nat} {i g a b : Nat} (h : bst zs i = some (g, a, b)) : ∀ d, i + d < zs.length → ∃ g' a' b', bst zs (i + d) = some (g', a', b') ∧ g ≤ g' ∧ (g' = g → a' = a ∧ b' = b)
  | 0, _ => ⟨g, a, b, h, Nat.le_refl _, fun _ => ⟨rfl, rfl⟩⟩
  | d + 1, lt => by
    obtain ⟨g', a', b', e, le, eq⟩ := bst_up h d (by omega)
    have hx : zs[i + d]? = some zs[i + d] := List.getElem?_eq_getElem (by omega)
    have hy : zs[i + d + 1]? = some zs[i + d + 1] := List.getElem?_eq_getElem lt
    rw [show i + (d + 1) = i + d + 1 from rfl, bst_succ hx hy, e]
    show ∃ g2 a2 b2, (if g' < zs[i + d + 1] - zs[i + d] then some (zs[i + d + 1] - zs[i + d], zs[i + d], zs[i + d + 1]) else some (g', a', b')) = some (g2, a2, b2) ∧ _
    by_cases z : g' < zs[i + d + 1] - zs[i + d]
    · rw [if_pos z]
      exact ⟨_, _, _, rfl, by omega, fun e => by omega⟩
    · rw [if_neg z]
      exact ⟨_, _, _, rfl, le, eq⟩
theorem sorted_take : ∀ {zs : List Nat} (_ : zs.Pairwise (· < ·)) (n : Nat), ∃ k, k ≤ zs.length ∧ zs.filter (fun m => decide (m ≤ n)) = zs.take k
  | [], _, _ => ⟨0, Nat.le_refl _, rfl⟩
  | z :: zs, h, n => by
    obtain ⟨h1, h2⟩ := List.pairwise_cons.mp h
    obtain ⟨k, hk, e⟩ := sorted_take h2 n
    by_cases c : z ≤ n
    · exact ⟨k + 1, Nat.succ_le_succ hk, by rw [List.filter_cons, if_pos (decide_eq_true c), e]; rfl⟩
    · refine ⟨0, Nat.zero_le _, ?_⟩
      rw [List.filter_cons, if_neg (by rw [decide_eq_false c]; decide), List.take_zero, List.filter_eq_nil_iff]
      intro m hm
      have := h1 m hm
      rw [decide_eq_true_eq]
      omega
/-- the powers to less are the first of the powers to more -/
theorem Powers.less {n m : Nat} {zs ys : List Nat} (hz : Powers n zs) (hy : Powers m ys) (le : n ≤ m) : zs = ys.take zs.length ∧ zs.length ≤ ys.length := by
  obtain ⟨k, hk, e⟩ := sorted_take hy.1 n
  have : zs = ys.filter fun m => decide (m ≤ n) := up_uniq hz.1 (hy.1.sublist List.filter_sublist) fun x => by
    rw [List.mem_filter, hz.2, hy.2, decide_eq_true_eq]
    constructor
    · exact fun h => ⟨⟨by omega, h.2⟩, h.1⟩
    · exact fun h => ⟨h.2, h.1.2⟩
  rw [e] at this
  have l : zs.length = k := by rw [this, List.length_take]; omega
  exact ⟨by rw [l]; exact this, by omega⟩
theorem Powers.ne {n : Nat} {zs : List Nat} (hz : Powers n zs) (h : 4 ≤ n) : 2 ≤ zs.length := by
  have h1 : 1 ∈ zs := (hz.2 1).mpr ⟨by omega, Nat.le_refl _, 1, 2, Nat.le_refl _, rfl⟩
  have h4 : 4 ∈ zs := (hz.2 4).mpr ⟨h, by decide, 2, 2, Nat.le_refl _, rfl⟩
  refine Nat.le_of_not_lt fun z => ?_
  match zs, h1, h4, z with
  | [], h1, _, _ => simp at h1
  | [x], h1, h4, _ =>
    have e1 : 1 = x := by simpa using h1
    have e4 : 4 = x := by simpa using h4
    omega
  | _ :: _ :: _, _, _, z =>
    simp only [List.length_cons] at z
    omega
theorem best_none {n : Nat} (h : Best n none) : n < 4 := by
  obtain ⟨zs, hz, e⟩ := h
  refine Nat.lt_of_not_le fun z => ?_
  have l2 := hz.ne z
  obtain ⟨k, ek⟩ : ∃ k, zs.length - 1 = k + 1 := ⟨zs.length - 2, by omega⟩
  rw [ek, bst_succ (x := zs[k]'(by omega)) (y := zs[k + 1]'(by omega)) (List.getElem?_eq_getElem _) (List.getElem?_eq_getElem _)] at e
  obtain ⟨t, et⟩ := stepG_some (bst zs k) (zs[k]'(by omega)) (zs[k + 1]'(by omega))
  rw [et] at e
  cases e
/-- what is known of a gap that is told -/
theorem best_some {n g a b : Nat} (h : Best n (some (g, a, b))) : g = b - a ∧ a < b ∧ b ≤ n ∧ 1 ≤ a ∧ IsPow a ∧ NextP a b ∧ (∀ m o, n ≤ m → Best m o → ∃ g' a' b', o = some (g', a', b') ∧ g ≤ g' ∧ (g' = g → a' = a ∧ b' = b)) ∧
    ∀ g' a' b', Best (b - 1) (some (g', a', b')) → g' < g := by
  obtain ⟨zs, hz, e⟩ := h
  have l0 : zs.length ≠ 0 := fun z => by rw [z] at e; cases e
  obtain ⟨k, hk, ha, hb, rfl, hk2⟩ := bst_from (by omega) e.symm
  have ma := (hz.2 a).mp (List.mem_of_getElem? ha)
  have mb := (hz.2 b).mp (List.mem_of_getElem? hb)
  have ab : a < b := Pw.up_lt hz.1 ha hb
  have idx : ∀ {i j x y : Nat}, zs[i]? = some x → zs[j]? = some y → x < y → i < j := fun {i j x y} hx hy lt => by
    obtain ⟨h1, rfl⟩ := List.getElem?_eq_some_iff.mp hx
    obtain ⟨h2, rfl⟩ := List.getElem?_eq_some_iff.mp hy
    refine Nat.lt_of_not_le fun z => ?_
    rcases Nat.eq_or_lt_of_le z with z | z
    · subst z
      exact absurd lt (Nat.lt_irrefl _)
    · have := List.pairwise_iff_getElem.mp hz.1 j i h2 h1 z
      omega
  refine ⟨rfl, ab, mb.1, ma.2.1, ma.2.2, ⟨ab, mb.2.2, fun x ax px => ?_⟩, fun m o le hB => ?_, fun g' a' b' hB => ?_⟩
  · refine Nat.le_of_not_lt fun z => ?_
    obtain ⟨j, hj⟩ := List.getElem?_of_mem ((hz.2 x).mpr ⟨by omega, by omega, px⟩)
    have h1 := idx ha hj ax
    have h2 := idx hj hb z
    omega
  · obtain ⟨ys, hy, rfl⟩ := hB
    obtain ⟨e1, e2⟩ := hz.less hy le
    have e3 : bst ys (zs.length - 1) = some (b - a, a, b) := by
      rw [e, ← bst_take ys zs.length (zs.length - 1) (by omega), ← e1]
    obtain ⟨g', a', b', h1, h2⟩ := bst_up e3 (ys.length - zs.length) (by omega)
    rw [show zs.length - 1 + (ys.length - zs.length) = ys.length - 1 by omega] at h1
    exact ⟨g', a', b', h1, h2⟩
  · obtain ⟨ys, hy, e5⟩ := hB
    obtain ⟨e1, e2⟩ := hy.less hz (show b - 1 ≤ n by omega)
    have hl : ys.length ≤ k + 1 := by
      refine Nat.le_of_not_lt fun z => ?_
      have hbk : ys[k + 1]? = some b := by
        rw [e1, List.getElem?_take, if_pos z]
        exact hb
      have := (hy.2 b).mp (List.mem_of_getElem? hbk)
      omega
    have hl2 : k < ys.length := by
      obtain ⟨j, hj⟩ := List.getElem?_of_mem ((hy.2 a).mpr ⟨by omega, ma.2⟩)
      have hj2 : j < ys.length := (List.getElem?_eq_some_iff.mp hj).1
      rw [e1, List.getElem?_take, if_pos hj2] at hj
      refine Nat.lt_of_not_le fun z => ?_
      obtain ⟨h1, e6⟩ := List.getElem?_eq_some_iff.mp hj
      obtain ⟨h2, e7⟩ := List.getElem?_eq_some_iff.mp ha
      have := List.pairwise_iff_getElem.mp hz.1 j k h1 h2 (by omega)
      omega
    have e8 : ys.length - 1 = k := by omega
    rw [e8, e1, bst_take zs _ k (by omega)] at e5
    exact hk2 _ _ _ e5.symm
end Pm
namespace Pw
open PySem PySem.Spec PyProof.Rows L2 SX TL RZ Pt
theorem lex_no {x y : Nat × Nat} (h : LexLt x y) (h' : LexLt y x) : False := by
  rcases h with h | h <;> rcases h' with h' | h' <;> omega
theorem lex_uniq : ∀ {xs ys : List (Nat × Nat)}, xs.Pairwise LexLt → ys.Pairwise LexLt → (∀ k, k ∈ xs ↔ k ∈ ys) → xs = ys
  | [], [], _, _, _ => rfl
  | [], y :: ys, _, _, h => absurd ((h y).mpr (List.mem_cons_self ..)) (by simp)
  | x :: xs, [], _, _, h => absurd ((h x).mp (List.mem_cons_self ..)) (by simp)
  | x :: xs, y :: ys, hx, hy, h => by
    obtain ⟨x1, x2⟩ := List.pairwise_cons.mp hx
    obtain ⟨y1, y2⟩ := List.pairwise_cons.mp hy
    have e : x = y := by
      rcases List.mem_cons.mp ((h x).mp (List.mem_cons_self ..)) with e | e
      · exact e
      · rcases List.mem_cons.mp ((h y).mpr (List.mem_cons_self ..)) with e2 | e2
        · exact e2.symm
        · exact (lex_no (y1 x e) (x1 y e2)).elim
    subst e
    have nx : ∀ {z : Nat × Nat}, ¬ LexLt z z := fun {z} l => lex_no l l
    rw [lex_uniq x2 y2 fun k => ?_]
    constructor
    · intro hk
      rcases List.mem_cons.mp ((h k).mp (List.mem_cons_of_mem _ hk)) with e | e
      · exact absurd (e ▸ x1 k hk) nx
      · exact e
    · intro hk
      rcases List.mem_cons.mp ((h k).mpr (List.mem_cons_of_mem _ hk)) with e | e
      · exact absurd (e ▸ y1 k hk) nx
      · exact e
section
variable {K : PySem.W.Frag} {H : Hp} {Q : VK} {p q : Addr} {ps qs : List Addr} {zs ws : List (Nat × Nat)}
theorem r_nePL (hp : SqL K H p (ps.map V.ref)) (hz : PairsAt H ps zs) (hq : SqL K H q (qs.map V.ref)) (hw : PairsAt H qs ws) (k : Q (.bl (!decide (zs = ws))) H) : rNeD K (.ref p) (.ref q) H Q :=
  ⟨.list (zs.map dpr), .list (ws.map dpr), .lst hp hz.dp, .lst hq hw.dp, dprs_shapedL zs, dprs_shapedL ws, by rw [show PyData.eqv (.list (zs.map dpr)) (.list (ws.map dpr)) = decide (zs = ws) from by simp only [PyData.eqv, dprs_eqv]]; exact k⟩
end
theorem r_setVPT {K : PySem.W.Frag} {P : Program} {w : World} {H : Hp} {Q : VK} {t : Addr} {qs : List Addr} {zs : List (Nat × Nat)} (ht : SqT K H t (qs.map V.ref)) (hz : PairsAt H qs zs) (few : zs.length < 4000)
    (q : ∀ (a : Addr) (L : List (Value × List Int)), H a = none → Told H zs L → Q (.ref a) (upd H a (SetVO P w a L))) : rSetVPT K P w [.ref t] H Q := ⟨t, qs, zs, rfl, ht, hz, few, q⟩
theorem r_sortedVP {P : Program} {w : World} {H : Hp} {Q : VK} {a : Addr} {L : List (Value × List Int)} {ws : List (Nat × Nat)} (ha : H a = some (SetVO P w a L)) (told : Told H ws L) (few : ws.length < 4000)
    (q : ∀ (p : Addr) (qs : List Addr) (zs : List (Nat × Nat)), H p = none → PairsAt H qs zs → zs.Pairwise LexLt → (∀ z, z ∈ zs ↔ z ∈ ws) → zs.length ≤ ws.length → Q (.ref p) (upd H p (.lst (qs.map V.ref)))) : rSortedVP P w [.ref a] H Q := ⟨a, L, ws, rfl, ha, told, few, q⟩
theorem r_pow7 {H : Hp} {Q : VK} (q : Q (.int 10000000) H) : rI CPow (fun i j => V.int (i ^ j.toNat)) (.int 10) (.int 7) H Q := r_I (show CPow 10 7 from ⟨by decide, by decide, by decide⟩) (by rw [show (10 : Int) ^ (7 : Int).toNat = 10000000 by decide]; exact q)
theorem r_pow14 {H : Hp} {Q : VK} (q : Q (.int 100000000000000) H) : rI CPow (fun i j => V.int (i ^ j.toNat)) (.int 10) (.int 14) H Q := r_I (show CPow 10 14 from ⟨by decide, by decide, by decide⟩) (by rw [show (10 : Int) ^ (14 : Int).toNat = 100000000000000 by decide]; exact q)
/-- the powers by place: not above the square of the place's number -/
theorem powAt_le {x v : Nat} (h : Pm.PowAt x v) : v ≤ (x + 1) * (x + 1) := by
  have h1 := h.pos
  have c : Pm.cntP (v - 1) ≤ x := by
    have e : v = v - 1 + 1 := by omega
    have z := h.cnt
    rw [e, Pm.cntP_step, ← e, Pm.I_t h.pow] at z
    omega
  have := Pm.pow_lt_of_cnt c
  omega
theorem powAt_lt {x y v u : Nat} (h : Pm.PowAt x v) (h' : Pm.PowAt y u) (lt : x < y) : v < u := by
  refine Nat.lt_of_not_le fun z => ?_
  have := Pm.cntP_mono z
  rw [h.cnt, h'.cnt] at this
  omega
theorem gw_pow2 {n b g : Nat} (hgw : GW n b g) (n1 : 1 ≤ n) (hp : Pm.IsPow n) : 1 < g := by
  have hg : gexp n = g := gexp_eq hgw
  exact hg ▸ (gexp_pow n1).mp hp
theorem sq_ex (n : Nat) : ∃ r, r * r ≤ n ∧ n < (r + 1) * (r + 1) := by
  induction n with
  | zero => exact ⟨0, Nat.le_refl _, by decide⟩
  | succ n ih =>
    obtain ⟨r, h1, h2⟩ := ih
    rcases Nat.lt_or_ge (n + 1) ((r + 1) * (r + 1)) with z | z
    · exact ⟨r, by omega, z⟩
    · refine ⟨r + 1, z, ?_⟩
      have e : (r + 1 + 1) * (r + 1 + 1) = (r + 1) * (r + 1) + (r + 1) + (r + 1) + 1 := by
        rw [Nat.mul_succ, Nat.succ_mul]
        omega
      omega
/-- the next power is near -/
theorem next_near {v u m : Nat} (h : Pm.NextP v u) (hv : v ≤ m * m) : u - v ≤ 2 * m + 1 := by
  obtain ⟨r, h1, h2⟩ := sq_ex v
  have h3 := h.min _ h2 (Pm.isPow_sq _)
  have h4 : r ≤ m := Nat.le_of_not_lt fun z => by
    have := Nat.mul_lt_mul'' z z
    omega
  have e : (r + 1) * (r + 1) = r * r + r + r + 1 := by
    rw [Nat.mul_succ, Nat.succ_mul]
    omega
  omega
theorem oa_seq {t1 t2 : TS} {D : Ends} {σ : L2.St} {H : Hp} (W : L2.St → Hp → Prop) (h1 : ∀ N : L2.St → Hp → Prop, (∀ σ' H', W σ' H' → N σ' H') → t1 { D with nx := N } σ H) (h : ∀ σ' H', W σ' H' → t2 D σ' H') : tSeq t1 t2 D σ H := h1 _ h
theorem oa_if {tt : TT} {t u : TS} {D : Ends} {σ : L2.St} {H : Hp} (WT WF : Hp → Prop) (h : ∀ QT : Bool → Hp → Prop, (∀ H', WT H' → QT true H') → (∀ H', WF H' → QT false H') → tt σ H QT) (hT : ∀ H', WT H' → t D σ H') (hF : ∀ H', WF H' → u D σ H') : tIfS tt t u D σ H :=
  h (fun b H1 => if b = true then t D σ H1 else u D σ H1) (fun H' w => by rw [if_pos rfl]; exact hT H' w) (fun H' w => by rw [if_neg (by decide)]; exact hF H' w)
theorem oa_keys {d : Addr} {od : Obj} {kvs : List (Key × V)} {g : TG} {tb : TS} {D : Ends} {σ : L2.St} {H : Hp} (Pv : Nat → L2.St → Hp → Prop) (h0 : Pv 0 σ H) (hG : ∀ i σ G, Pv i σ G → G d = some (.frz od (.dK kvs)))
    (hs : ∀ i k v σ G, kvs[i]? = some (k, v) → Pv i σ G → g (kV k) σ G fun σ2 H2 => tb { D with nx := Pv (i + 1), ct := Pv (i + 1), bk := D.nx } σ2 H2) (hd : ∀ σ G, Pv kvs.length σ G → D.nx σ G) :
    ∃ W : Nat → Nat → L2.St → Hp → Prop, (∃ m, W 0 m σ H) ∧ ∀ i m σ H, W i m σ H →
      ((Itk d od kvs).stop i H ∧ D.nx σ H) ∨ ((Itk d od kvs).go i H ∧ ∃ N : L2.St → Hp → Prop, (∀ σ' H', N σ' H' → ∃ m', m' < m ∧ W (i + 1) m' σ' H') ∧ ∀ x H', (Itk d od kvs).yld i H x H' → g x σ H' fun σ2 H2 => tb { D with nx := N, ct := N, bk := D.nx } σ2 H2) :=
  for_it walk_keys Pv h0 (fun i σ G _ h => hG i σ G h) (fun i x σ G G' _ h y => by
    obtain ⟨e, k, v, hk, ex⟩ := y
    subst e ex
    exact hs i k v σ _ hk h) hd
theorem mt_put {H : Hp} {d : Addr} {ks : List Nat} {v : V} (h : MT H d ks) (k0 : Nat) : ∃ kvs, H d = some (.dK kvs) ∧ kvs.length = ks.length ∧ MT (upd H d (.dK (putK kvs (.inl (k0 : Int)) v))) d (mtAdd ks k0) := by
  obtain ⟨h0, kvs, h1, h2⟩ := h
  refine ⟨kvs, h1, mt_len h2, mtAdd_nd h0 k0, _, upd_same, ?_⟩
  have hm := mt_val (k := k0) h2
  unfold mtAdd
  by_cases m : k0 ∈ ks
  · rw [if_pos m, ← h2]
    unfold putK
    rw [valV_any, hm.mpr m, if_pos rfl, List.map_map]
    refine List.map_congr_left fun p _ => ?_
    show (if p.1 = .inl (k0 : Int) then (p.1, v) else p).1 = p.1
    split <;> rfl
  · rw [if_neg m, putK_new]
    · rw [List.map_append, h2, List.map_append]
      rfl
    · cases e : valV kvs (.inl (k0 : Int)) with
      | none => rfl
      | some y => exact absurd (hm.mp (by rw [e]; rfl)) m
theorem mt_at {ks : List Nat} {kvs : List (Key × V)} {i : Nat} {k : Key} {v : V} (h : kvs.map (·.1) = ks.map fun k : Nat => (Sum.inl (k : Int) : Key)) (hx : kvs[i]? = some (k, v)) : ∃ y, ks[i]? = some y ∧ k = .inl (y : Int) := by
  have e := congrArg (fun l => l[i]?) h
  simp only [List.getElem?_map, hx] at e
  cases z : ks[i]? with
  | none => rw [z] at e; cases e
  | some y =>
    rw [z] at e
    exact ⟨y, rfl, Option.some.inj e⟩
theorem r_dcomp {wi : TI} {g : TG} {tt : TT} {tk tv : TE} {vs : List Nat} {σ : L2.St} {H : Hp} {Q : VK} (h : wi σ H fun J H1 => ∀ D, H1 D = none → ∃ W : Nat → Nat → Hp → Prop, (∃ m, W 0 m (upd H1 D (.dK []))) ∧ ∀ i m H, W i m H →
  (J.stop i H ∧ Q (.ref D) H) ∨ (J.go i H ∧ ∃ Nx : Hp → Prop, (∀ H', Nx H' → ∃ m', m' < m ∧ W (i + 1) m' H') ∧ ∀ x H', J.yld i H x H' → g x (wipe σ vs) H' fun σ2 H2 => wipe σ2 vs = wipe σ vs ∧ tt σ2 H2 fun b H3 =>
    if b = true then tk σ2 H3 fun y H4 => tv σ2 H4 fun z H5 => ∃ kvs k, y = kV k ∧ H5 D = some (.dK kvs) ∧ kvs.length < sizeLine ∧ Nx (upd H5 D (.dK (putK kvs k z))) else Nx H3)) : tDc wi g tt tk tv vs σ H Q := h
theorem r_din {ty td : TE} {σ : L2.St} {H : Hp} {Q : VK} (h : ty σ H fun y H1 => td σ H1 fun x H2 => ∃ a o, x = .ref a ∧ DGet H2 a y o ∧ Q (.bl o.isSome) H2) : tDIn ty td σ H Q := h
theorem r_isbI {A B C : Prop} {b : Bool} (e : b = true ↔ C) (h1 : C → A) (h2 : ¬ C → B) : if b = true then A else B := by
  cases b with
  | true => rw [if_pos rfl]; exact h1 (e.mp rfl)
  | false => rw [if_neg (by decide)]; exact h2 fun z => absurd (e.mpr z) (by decide)
theorem r_isb {Q : Bool → Prop} {b : Bool} {A : Prop} (e : b = true ↔ A) (h1 : A → Q true) (h2 : ¬ A → Q false) : Q b := by
  cases b with
  | true => exact h1 (e.mp rfl)
  | false => exact h2 fun z => absurd (e.mpr z) (by decide)
def spWide : Sp := fun vs H Q _ => ∃ (d : Addr) (most : Int) (n : Nat), vs = [.ref d, .int most] ∧ 0 < most ∧ most < 2 ^ 40 ∧ DkAt H d n ∧ n ≤ 2 ^ 19 ∧ ∀ (r : Int) (H' : Hp), 0 ≤ r → r < most → Keep d H H' → DkAt H' d (n + 3) → Q (.int r) H'
def spPairsR : Sp := fun vs H Q _ => ∃ (d : Addr) (D M n : Nat), vs = [.ref d, .int (D : Int), .int (M : Int)] ∧ 1 ≤ D ∧ D ≤ 1002001 ∧ 1 ≤ M ∧ M ≤ 1000000000 ∧ DkAt H d n ∧ n ≤ 2 ^ 18 ∧ ∀ H', Keep d H H' → DkAt H' d (n + 3) → Q (.bl true) H'
def spBesideR : Sp := fun vs H Q _ => ∃ x : Nat, vs = [.int (x : Int)] ∧ x ≤ 2000 ∧ ∀ H', Same H H' → Q (.bl true) H'
def spGapR : Sp := fun vs H Q _ => ∃ n : Nat, vs = [.int (n : Int)] ∧ n ≤ 1000000 ∧ ∀ H', Same H H' → Q (.bl true) H'
end Pw

/-! sets of ints, any number of them: one more member -/
namespace Pt
open PySem PySem.Spec PyProof.Rows L2
section
variable {P : Program} {w : World} {A : Around} {E : Value → Shared → Prop} {s : Shared}
/-- a value that is the number k, of no great size -/
def IsN (_ : Heap) (k : Int) (v : Value) : Prop := (∃ tk, v = .int k tk) ∧ 0 ≤ k ∧ k < 2 ^ 60
theorem hash_small {k : Int} (h0 : 0 ≤ k) (h1 : k < 2 ^ 60) : hashInt k = k := by
  obtain ⟨n, rfl⟩ := Int.eq_ofNat_of_zero_le h0
  have e : (n : Int) % ((2 ^ 61 - 1 : Nat) : Int) = (n : Int) := Int.emod_eq_of_lt h0 (Int.lt_trans h1 (by decide))
  have r : rawHash (n : Int) = (n : Int) := by
    unfold rawHash
    dsimp only
    rw [Int.natAbs_natCast, e, if_neg (show ¬ (n : Int) < 0 by omega), if_neg (by rw [beq_iff_eq]; omega)]
  unfold hashInt
  rw [r, if_neg (by rw [beq_iff_eq]; omega)]
theorem seen_int {k : Int} {tk : Tok} {ys : List Value} {Q : Bool → Shared → Prop} (hy : ∀ y ∈ ys, ∃ k' t', y = Value.int k' t') (h : Q false s) : wpAny (model P w) A (searchCouldBeSeen (.int k tk) ys) Q E s := by
  unfold searchCouldBeSeen
  refine wpAny_bind ?_
  refine wpAny_forIn_list _ (fun rest r s' => r.1 = none ∧ s' = s ∧ ∀ y ∈ rest, ∃ k' t', y = Value.int k' t') _ ?_ ?_ _ _ ⟨rfl, rfl, hy⟩
  · rintro v rest r s' ⟨hr, rfl, all⟩
    obtain ⟨k', t', rfl⟩ := all v List.mem_cons_self
    refine wp_if_pos (by rfl) ?_
    exact wpAny_pure ⟨rfl, rfl, fun u hu => all u (List.mem_cons_of_mem _ hu)⟩
  · rintro ⟨r1, r2⟩ s' ⟨hr, rfl, _⟩
    simp only at hr
    subst hr
    exact wpAny_pure h
theorem eq_int {u v : Value} {k k' : Int} {Q : Bool → Shared → Prop} (h : IsN s.heap k u) (h' : IsN s.heap k' v) (q : Q (decide (k = k')) s) : wpAny (model P w) A (eqBool u v) Q E s := by
  obtain ⟨⟨t1, rfl⟩, _⟩ := h
  obtain ⟨⟨t2, rfl⟩, _⟩ := h'
  refine wpAny_eqBool_int ?_
  rw [show (k == k') = decide (k = k') from by by_cases h : k = k' <;> simp [h]]
  exact q
theorem val_int {u : Value} {k : Int} {Q : Bool → Shared → Prop} (h : IsN s.heap k u) (q : Q true s) : wpAny (model P w) A (hashByValue 8 u) Q E s := by
  obtain ⟨⟨t1, rfl⟩, _⟩ := h
  rw [hashByValue_scannable 8 rfl]
  exact wpAny_pure q
variable {a : Addr} {L : List (Value × Int)} {es : Array (Int × Value)} {ep : Nat} {t : SetTable}
/-- the search among ints: the first that has the hash is the one -/
theorem search_one (R : SetG w hashInt IsN s.heap a L es ep t) {x : Value} {k : Int} (hx : IsN s.heap k x) {Q : SetFound → Shared → Prop} (hin : k ∈ L.map (·.2) → Q (.there none) s)
    (hout : ∀ K, k ∉ L.map (·.2) → way t.mask (hashInt k) K ∉ t.place.toList → (∀ c, c < K → way t.mask (hashInt k) c ∈ t.place.toList) → Q (.free (way t.mask (hashInt k) K) false) s) :
    wpAny (model P w) A (setSearch a x (hashInt k) true) Q E s := by
  have room := R.room
  obtain ⟨o, ho, hex, hd⟩ := R.ob
  obtain ⟨K, lt, free, full⟩ := R.tab.gap (by rw [List.length_map]; omega) (hashInt k)
  unfold setSearch
  rw [show (100000 : Nat) = 99999 + 1 from rfl, setSearchFrom_succ]
  refine wpAny_bind (wpAny_setState_of ho hd R.fits ?_)
  dsimp only
  refine wp_if_neg R.real ?_
  try refine wpAny_bind (wpAny_pure ?_)
  have hashAt : ∀ (i : Nat) p, L[i]? = some p → (es[i]?.map (·.1)).getD 0 = hashInt p.2 := fun i p hp => by rw [R.entry hp]; rfl
  have spec := go_spec t R.tab.rise R.tab.clean (fun i => (es[i]?.map (·.1)).getD 0) (hashInt k) (10 * SetTable.turns t.mask) K (runAt t.mask (SetTable.bits (hashInt k) % (t.mask + 1)) (SetTable.bits (hashInt k))) rfl lt full free
  rcases spec with ⟨n, i, ltn, hi, eqh, before, met⟩ | ⟨before, met⟩
  · have met2 : t.probe (fun i => (es[i]?.map (·.1)).getD 0) (hashInt k) ((none : Option SetTable.Probe).getD (t.probeStart (hashInt k))) = some (.candidate (way t.mask (hashInt k) n) i (nth t.mask (runAt t.mask (SetTable.bits (hashInt k) % (t.mask + 1)) (SetTable.bits (hashInt k))) (n + 1))) := met
    rw [met2]
    dsimp only
    have il : i < L.length := by
      have z := (List.getElem?_eq_some_iff.mp hi).1
      rw [Array.length_toList, R.placed] at z
      exact z
    obtain ⟨p, hp⟩ : ∃ p, L[i]? = some p := ⟨_, List.getElem?_eq_getElem il⟩
    have pm := List.mem_of_getElem? hp
    have pis := R.mem p pm
    have same : p.2 = k := by
      have e := (hashAt i p hp).symm.trans eqh
      rw [hash_small pis.2.1 pis.2.2, hash_small hx.2.1 hx.2.2] at e
      exact e
    have rest : wpAny (model P w) A (searchRest a x (hashInt k) true 99999 es t (way t.mask (hashInt k) n) i (nth t.mask (runAt t.mask (SetTable.bits (hashInt k) % (t.mask + 1)) (SetTable.bits (hashInt k))) (n + 1))) Q E s := by
      unfold searchRest
      rw [R.entry hp]
      dsimp only
      refine wpAny_bind (wpAny_holding (eq_int pis hx ?_))
      refine wpAny_bind (wpAny_setState_of ho hd R.fits ?_)
      dsimp only
      refine wp_if_pos (by simp [same]) ?_
      exact wpAny_pure (hin (List.mem_map.mpr ⟨p, pm, same⟩))
    by_cases ld : t.led = true
    · refine wp_if_neg (by simp [ld]) ?_
      try refine wpAny_bind (wpAny_pure ?_)
      exact rest
    · refine wp_if_pos (by simp [ld]) ?_
      obtain ⟨⟨tx, rfl⟩, _⟩ := id hx
      refine wpAny_bind (seen_int (fun y hy => ?_) ?_)
      · obtain ⟨q, hq, rfl⟩ := List.mem_map.mp hy
        have q1 : q ∈ es ∧ q.1 = hashInt k := by simpa using hq
        have q2 : q ∈ es.toList := by simpa using q1.1
        rw [R.rows] at q2
        obtain ⟨p2, m2, rfl⟩ := List.mem_map.mp q2
        obtain ⟨⟨t2, e2⟩, _⟩ := R.mem p2 m2
        exact ⟨p2.2, t2, e2⟩
      · refine wp_if_neg (by decide) ?_
        try refine wpAny_bind (wpAny_pure ?_)
        exact rest
  · have met2 : t.probe (fun i => (es[i]?.map (·.1)).getD 0) (hashInt k) ((none : Option SetTable.Probe).getD (t.probeStart (hashInt k))) = some (.empty (way t.mask (hashInt k) K) none) := met
    rw [met2]
    dsimp only
    refine wpAny_pure (hout K (fun m => ?_) free full)
    obtain ⟨p0, m0, e0⟩ := List.mem_map.mp m
    obtain ⟨i0, l0, z0⟩ := List.getElem_of_mem m0
    have h0 : L[i0]? = some p0 := by rw [List.getElem?_eq_getElem l0, z0]
    have hi : (L.map fun p => hashInt p.2)[i0]? = some (hashInt k) := by rw [List.getElem?_map, h0, ← e0]; rfl
    have il : i0 < t.place.toList.length := by
      rw [R.tab.many, List.length_map]
      exact l0
    have hj := List.getElem?_eq_getElem il
    obtain ⟨c, hc, e⟩ := R.tab.ahead free hi hj
    refine before c i0 hc ?_ ((hashAt i0 p0 h0).trans (by rw [e0]))
    rw [hj]
    exact congrArg some e.symm
theorem add_far (R : SetG w hashInt IsN s.heap a L es ep t) (ms : MaskS t.mask) {x : Value} {k : Int} (hx : IsN s.heap k x) (noscan : byScan x es = false) (top : L.length + 1 < 70000) {Q : Bool → Shared → Prop}
    (hQ : ∀ b h' L' es' ep' t', Heap.SameBut a s.heap h' → SetG w hashInt IsN h' a L' es' ep' t' → MaskS t'.mask → (k ∈ L.map (·.2) → L' = L) → (k ∉ L.map (·.2) → L'.Perm ((x, k) :: L)) → Q b { s with heap := h' }) :
    wpAny (model P w) A (setAddHashed a x (hashInt k)) Q E s := by
  obtain ⟨o, ho, hex, hd⟩ := R.ob
  have sl := R.size
  have room := R.room
  unfold setAddHashed
  refine wpAny_holding ?_
  rw [show (100000 : Nat) = 99999 + 1 from rfl, setAddHashedIn_succ]
  refine wpAny_bind (wpAny_setState_of ho hd R.fits ?_)
  dsimp only
  refine wp_if_neg (by rw [noscan]; decide) ?_
  try refine wpAny_bind (wpAny_pure ?_)
  refine wpAny_bind (search_one R hx (fun m => ?_) fun K no free full => ?_)
  · dsimp only
    exact wpAny_pure (hQ false s.heap L es ep t (Heap.SameBut.refl a s.heap) R ms (fun _ => rfl) fun z => absurd m z)
  · dsimp only
    refine wpAny_bind (wpAny_setState_of ho hd R.fits ?_)
    dsimp only
    obtain ⟨pl, T1⟩ := R.tab.put free full
    have mk1 : (t.put (way t.mask (hashInt k) K)).1.mask = t.mask := rfl
    have ld1 : (t.put (way t.mask (hashInt k) K)).1.led = t.led := rfl
    have pn1 : (t.put (way t.mask (hashInt k) K)).1.plain = true := R.plain
    have at1 : (t.put (way t.mask (hashInt k) K)).2 = SetTable.below t.place (way t.mask (hashInt k) K) := rfl
    generalize t.put (way t.mask (hashInt k) K) = pt at T1 mk1 ld1 pn1 at1 ⊢
    obtain ⟨t1, p⟩ := pt
    dsimp only at T1 mk1 ld1 pn1 at1 ⊢
    subst at1
    first
      | (refine wpAny_bind ?_; refine wp_if_pos pn1 ?_; refine val_int hx ?_)
      | refine wp_if_pos pn1 (wpAny_bind (val_int hx ?_))
    simp only [if_true]
    generalize SetTable.below t.place (way t.mask (hashInt k) K) = p at pl T1 ⊢
    have pm := put_perm L p (x, k)
    have len1 : (L.take p ++ (x, k) :: L.drop p).length = L.length + 1 := pm.length_eq
    have hs1 : (L.take p ++ (x, k) :: L.drop p).map (fun p => hashInt p.2) = (L.map fun p => hashInt p.2).take p ++ hashInt k :: (L.map fun p => hashInt p.2).drop p := by
      rw [List.map_append, List.map_cons, List.map_take, List.map_drop]
    have rows1 : (SetTable.insertAt es p (hashInt k, x)).toList = rowsG hashInt (L.take p ++ (x, k) :: L.drop p) := by
      rw [SetTable.toList_insertAt, R.rows, rowsG, rowsG, List.map_append, List.map_cons, List.map_take, List.map_drop]
    rw [← hs1] at T1
    have nd1 : ((L.take p ++ (x, k) :: L.drop p).map (·.2)).Nodup := (pm.map (·.2)).nodup_iff.mpr (by rw [List.map_cons]; exact List.nodup_cons.mpr ⟨no, R.nd⟩)
    have es1 : (SetTable.insertAt es p (hashInt k, x)).size = L.length + 1 := by
      have h := congrArg List.length rows1
      rw [rowsG, List.length_map, len1, Array.length_toList] at h
      exact h
    generalize SetTable.insertAt es p (hashInt k, x) = es2 at rows1 es1 ⊢
    generalize L.take p ++ (x, k) :: L.drop p = L1 at pm len1 T1 nd1 rows1
    refine wpAny_bind (wpAny_storeSet_of ho hd ?_ (by rw [es1, sizeLine_eq]; omega))
    have sb : Heap.SameBut a s.heap (s.heap.update a (Obj.putSet es2 t1)) := Heap.SameBut.update ..
    have ho1 := store_at (es' := es2) (t' := t1) ho hd
    generalize s.heap.update a (Obj.putSet es2 t1) = h1 at sb ho1 ⊢
    have mem1 : ∀ p ∈ L1, IsN h1 p.2 p.1 := fun p hp => by
      rcases List.mem_cons.mp (pm.mem_iff.mp hp) with e | hp
      · rw [e]; exact hx
      · exact R.mem p hp
    have led1 : w.params.followText "set-order" = true ∨ t1.led = true := by rw [ld1]; exact R.led
    have many1 : t1.place.size = L.length + 1 := by
      have z := T1.many
      rw [List.length_map, len1, Array.length_toList] at z
      exact z
    have full1 : t1.tooFull = decide ((L.length + 1) * 5 ≥ t.mask * 3) := by
      unfold SetTable.tooFull SetTable.fill
      rw [T1.clean, many1, mk1]
      rfl
    by_cases hf : t1.tooFull = true
    · first
        | (refine wpAny_bind ?_; refine wp_if_pos (by simp [hf]) ?_)
        | (refine wp_if_pos (by simp [hf]) ?_; refine wpAny_bind ?_)
      rw [full1, decide_eq_true_eq] at hf
      obtain ⟨M, z1, z2, z3, z4, z5, z6⟩ := grow ms room hf (by omega)
      rw [sl]
      refine relay_core (Is := IsN) (s := { s with heap := h1 }) (fun h _ _ _ => h) ho1 ⟨hex.1, hex.2.1, hex.2.2⟩ rfl rows1 (by rw [many1, es1]) T1.clean (by rw [es1, mk1]; omega) nd1 mem1 pn1 led1 z1 z2.g z4 (by rw [len1]; exact z3) (by omega) ?_
      intro h2 L2 es3 ep2 t2 sb2 R2 em pm2
      refine wpAny_pure (hQ true h2 L2 es3 ep2 t2 (sb.trans sb2) R2 (by rw [em]; exact z2) (fun z => absurd z no) fun _ => pm2.trans pm)
    · first
        | refine wp_if_neg (by simp [hf]) ?_
        | (refine wpAny_bind ?_; refine wp_if_neg (by simp [hf]) ?_; refine wpAny_pure ?_)
      refine wpAny_pure (hQ true h1 L1 es2 (ep + 1) t1 sb ⟨⟨_, ho1, ⟨hex.1, hex.2.1, hex.2.2⟩, rfl⟩, rows1, T1, nd1, mem1, pn1, led1, ?_⟩ (by rw [mk1]; exact ms) (fun z => absurd z no) fun _ => pm)
      rw [full1, decide_eq_true_eq] at hf
      rw [len1, mk1]
      omega
/-! while it is scanned -/
theorem slot_new (R : TabG t (L.map fun p => hashInt p.2)) (room : L.length ≤ t.mask) (h : Int) : ∃ K, way t.mask h K ∉ t.place.toList ∧ (∀ c, c < K → way t.mask h c ∈ t.place.toList) ∧ t.freeSlot h = some (way t.mask h K, false) := by
  obtain ⟨K, lt, free, full⟩ := R.gap (by rw [List.length_map]; exact room) h
  have spec := go_spec t R.rise R.clean (fun _ => h + 1) h (10 * SetTable.turns t.mask) K (runAt t.mask (SetTable.bits h % (t.mask + 1)) (SetTable.bits h)) rfl lt full free
  rcases spec with ⟨n, i, _, _, eqh, _⟩ | ⟨_, met⟩
  · exact absurd eqh (by omega)
  · have met2 : t.probe (fun _ => h + 1) h (t.probeStart h) = some (.empty (way t.mask h K) none) := met
    refine ⟨K, free, full, ?_⟩
    unfold SetTable.freeSlot
    rw [met2]
    rfl
theorem fits_on {t : SetTable} {hs : List Int} {n : Nat} (T : TabG t hs) (e : n = hs.length) (room : n ≤ t.mask) : t.fits n = true := by
  have z := T.many
  rw [Array.length_toList] at z
  unfold SetTable.fits SetTable.fill
  rw [T.clean, Bool.and_eq_true, beq_iff_eq, decide_eq_true_eq]
  refine ⟨by omega, ?_⟩
  show t.place.size + 0 ≤ t.mask
  omega
theorem relayAll_on {t : SetTable} {L : List (Value × Int)} {es : Array (Int × Value)} (hrows : es.toList = rowsG hashInt L) {wanted M : Nat} (hw : SetTable.sizeAbove wanted - 1 = M) (hM : MaskG M) (room : L.length * 5 < M * 3) :
    ∃ es2 t2 L2, relayAll t es wanted = (es2, t2, false) ∧ es2.toList = rowsG hashInt L2 ∧ L2.Perm L ∧ TabG t2 (L2.map fun p => hashInt p.2) ∧ t2.mask = M ∧ t2.led = t.led ∧ t2.plain = t.plain := by
  have sl : es.size = L.length := by
    have h := congrArg List.length hrows
    simpa [rowsG] using h
  obtain ⟨t', order, e, hp, T, em, el, ep'⟩ := relay_more t (hs := es.map (·.1)) (wanted := wanted) hw hM (by rw [Array.size_map, sl]; omega)
  rw [Array.size_map, sl] at hp
  obtain ⟨L2, r1, r2, r3⟩ := order_on order hrows hp
  rw [← r3] at T
  have s2 : (order.filterMap (es[·]?)).size = L.length := by
    have h := congrArg List.length r1
    rw [rowsG, List.length_map, r2.length_eq, Array.length_toList] at h
    exact h
  refine ⟨order.filterMap (es[·]?), t', L2, ?_, r1, r2, T, em, el, ep'⟩
  unfold relayAll
  rw [e]
  dsimp only
  refine if_pos ?_
  rw [Bool.and_eq_true]
  refine ⟨?_, fits_on T (by rw [s2, List.length_map, r2.length_eq]) (by rw [s2, em]; omega)⟩
  unfold coversAll
  rw [sl, List.isPerm_iff]
  exact hp
theorem add_near (R : SetG w hashInt IsN s.heap a L es ep t) (ms : MaskS t.mask) {x : Value} {k : Int} (hx : IsN s.heap k x) (scan : es.size < scanBound) {Q : Bool → Shared → Prop}
    (hQ : ∀ b h' L' es' ep' t', Heap.SameBut a s.heap h' → SetG w hashInt IsN h' a L' es' ep' t' → MaskS t'.mask → (k ∈ L.map (·.2) → L' = L) → (k ∉ L.map (·.2) → L'.Perm ((x, k) :: L)) → Q b { s with heap := h' }) :
    wpAny (model P w) A (setAddHashed a x (hashInt k)) Q E s := by
  obtain ⟨o, ho, hex, hd⟩ := R.ob
  have sl := R.size
  have room := R.room
  have few : L.length < 4096 := by
    rw [← sl]
    exact scan
  have good : ∀ e ∈ es.toList, GoodE e := fun e he => by
    rw [R.rows] at he
    obtain ⟨p, hp, rfl⟩ := List.mem_map.mp he
    obtain ⟨⟨tk, e⟩, _⟩ := R.mem p hp
    exact ⟨p.2, tk, e, rfl⟩
  have keys : es.toList.map keyOf = L.map (·.2) := by
    rw [R.rows, rowsG, List.map_map]
    refine List.map_congr_left fun p hp => ?_
    obtain ⟨⟨tk, e⟩, _⟩ := R.mem p hp
    show keyOf (hashInt p.2, p.1) = p.2
    rw [e]
    rfl
  obtain ⟨⟨tx, ex⟩, xb⟩ := id hx
  subst ex
  have hkey : (intKind P w).is k (.int k tx) = true := intKind_is P w k tx
  have hel : ElemsOf (intKind P w) es.toList := good_elems good
  unfold setAddHashed
  refine wpAny_holding ?_
  rw [show (100000 : Nat) = 99999 + 1 from rfl, setAddHashedIn_succ]
  refine wpAny_bind (wpAny_setState_of ho hd R.fits ?_)
  dsimp only
  rw [byScan_of (x := .int k tx) rfl scan hel]
  refine wp_if_pos rfl ?_
  refine wpAny_bind ?_
  unfold setAddByScan
  refine wpAny_bind (wpAny_rule ?_)
  refine wpAny_bind (wpAny_setScan_of hkey ho hd R.fits hel ?_)
  cases hfi : List.findIdx? (fun e => (intKind P w).is k e.2) es.toList with
  | some j =>
    dsimp only
    obtain ⟨hj, pj, _⟩ := List.findIdx?_eq_some_iff_getElem.mp hfi
    have m : k ∈ L.map (·.2) := by
      rw [← keys]
      exact (good_mem (P := P) (w := w) good k).2 ⟨es.toList[j], List.getElem_mem hj, pj⟩
    exact wpAny_pure (wpAny_pure (hQ false s.heap L es ep t (Heap.SameBut.refl a s.heap) R ms (fun _ => rfl) fun z => absurd m z))
  | none =>
    dsimp only
    have no : k ∉ L.map (·.2) := fun z => by
      rw [← keys] at z
      obtain ⟨e, he, q⟩ := (good_mem (P := P) (w := w) good k).1 z
      have c := List.findIdx?_eq_none_iff.mp hfi e he
      rw [q] at c
      cases c
    obtain ⟨K, free, full, slot⟩ := slot_new R.tab (by omega) (hashInt k)
    obtain ⟨pl, T1⟩ := R.tab.put free full
    have mk1 : (t.put (way t.mask (hashInt k) K)).1.mask = t.mask := rfl
    have ld1 : (t.put (way t.mask (hashInt k) K)).1.led = t.led := rfl
    have pn1 : (t.put (way t.mask (hashInt k) K)).1.plain = true := R.plain
    have at1 : (t.put (way t.mask (hashInt k) K)).2 = SetTable.below t.place (way t.mask (hashInt k) K) := rfl
    have pm := put_perm L (SetTable.below t.place (way t.mask (hashInt k) K)) (Value.int k tx, k)
    have lay : layNew t es (hashInt k) (.int k tx) = (SetTable.insertAt es (SetTable.below t.place (way t.mask (hashInt k) K)) (hashInt k, .int k tx), (t.put (way t.mask (hashInt k) K)).1.orStandIn (SetTable.insertAt es (SetTable.below t.place (way t.mask (hashInt k) K)) (hashInt k, .int k tx)).size, false, !(t.put (way t.mask (hashInt k) K)).1.fits (SetTable.insertAt es (SetTable.below t.place (way t.mask (hashInt k) K)) (hashInt k, .int k tx)).size) := by
      unfold layNew
      rw [slot]
      rfl
    rw [lay]
    dsimp only
    generalize t.put (way t.mask (hashInt k) K) = pt at T1 mk1 ld1 pn1 at1 ⊢
    obtain ⟨t1, p⟩ := pt
    dsimp only at T1 mk1 ld1 pn1 at1 ⊢
    subst at1
    generalize SetTable.below t.place (way t.mask (hashInt k) K) = p at pl T1 pm ⊢
    have len1 : (L.take p ++ (Value.int k tx, k) :: L.drop p).length = L.length + 1 := pm.length_eq
    have hs1 : (L.take p ++ (Value.int k tx, k) :: L.drop p).map (fun p => hashInt p.2) = (L.map fun p => hashInt p.2).take p ++ hashInt k :: (L.map fun p => hashInt p.2).drop p := by
      rw [List.map_append, List.map_cons, List.map_take, List.map_drop]
    have rows1 : (SetTable.insertAt es p (hashInt k, Value.int k tx)).toList = rowsG hashInt (L.take p ++ (Value.int k tx, k) :: L.drop p) := by
      rw [SetTable.toList_insertAt, R.rows, rowsG, rowsG, List.map_append, List.map_cons, List.map_take, List.map_drop]
    rw [← hs1] at T1
    have nd1 : ((L.take p ++ (Value.int k tx, k) :: L.drop p).map (·.2)).Nodup := (pm.map (·.2)).nodup_iff.mpr (by rw [List.map_cons]; exact List.nodup_cons.mpr ⟨no, R.nd⟩)
    have es1 : (SetTable.insertAt es p (hashInt k, Value.int k tx)).size = L.length + 1 := by
      have h := congrArg List.length rows1
      rw [rowsG, List.length_map, len1, Array.length_toList] at h
      exact h
    have fits1 : t1.fits (SetTable.insertAt es p (hashInt k, Value.int k tx)).size = true := fits_on T1 (by rw [es1, List.length_map, len1]) (by rw [es1, mk1]; omega)
    unfold SetTable.orStandIn
    rw [fits1]
    simp only [if_true, Bool.not_true]
    generalize SetTable.insertAt es p (hashInt k, Value.int k tx) = es2 at rows1 es1 fits1 ⊢
    generalize L.take p ++ (Value.int k tx, k) :: L.drop p = L1 at pm len1 T1 nd1 rows1
    refine wpAny_bind (wpAny_pure ?_)
    refine wp_if_pos pn1 (wpAny_bind (val_int hx ?_))
    simp only [if_true]
    refine wpAny_bind (wpAny_storeSet_of ho hd ?_ (by rw [es1, sizeLine_eq]; omega))
    have sb : Heap.SameBut a s.heap (s.heap.update a (Obj.putSet es2 t1)) := Heap.SameBut.update ..
    have ho1 := store_at (es' := es2) (t' := t1) ho hd
    generalize s.heap.update a (Obj.putSet es2 t1) = h1 at sb ho1 ⊢
    have mem1 : ∀ p ∈ L1, IsN h1 p.2 p.1 := fun p hp => by
      rcases List.mem_cons.mp (pm.mem_iff.mp hp) with e | hp
      · rw [e]; exact hx
      · exact R.mem p hp
    have led1 : w.params.followText "set-order" = true ∨ t1.led = true := by rw [ld1]; exact R.led
    have many1 : t1.place.size = L.length + 1 := by
      have z := T1.many
      rw [List.length_map, len1, Array.length_toList] at z
      exact z
    have full1 : t1.tooFull = decide ((L.length + 1) * 5 ≥ t.mask * 3) := by
      unfold SetTable.tooFull SetTable.fill
      rw [T1.clean, many1, mk1]
      rfl
    by_cases hf : t1.tooFull = true
    · refine wp_if_pos (by simp [hf]) ?_
      rw [full1, decide_eq_true_eq] at hf
      obtain ⟨M, z1, z2, z3, z4, z5, z6⟩ := grow ms room hf (by omega)
      rw [es1]
      obtain ⟨es3, t2, L2, e2, r2, p2, T2, m2, l2, q2⟩ := relayAll_on (t := t1) rows1 z1 z2.g (by rw [len1]; exact z3)
      rw [e2]
      dsimp only
      refine wpAny_bind (wpAny_pure ?_)
      have es3s : es3.size = L.length + 1 := by
        have h := congrArg List.length r2
        rw [rowsG, List.length_map, p2.length_eq, len1, Array.length_toList] at h
        exact h
      refine wpAny_bind (wpAny_storeSet_of ho1 rfl ?_ (by rw [es3s, sizeLine_eq]; omega))
      have ho2 := store_at (es' := es3) (t' := t2) ho1 rfl
      refine wpAny_pure (wpAny_pure (hQ true _ L2 es3 _ t2 (sb.trans (Heap.SameBut.update _ a _)) ⟨⟨_, ho2, ⟨hex.1, hex.2.1, hex.2.2⟩, rfl⟩, r2, T2, (p2.map (·.2)).nodup_iff.mpr nd1, fun p hp => mem1 p (p2.mem_iff.mp hp), by rw [q2]; exact pn1, by rw [l2]; exact led1, ?_⟩ (by rw [m2]; exact z2) (fun z => absurd z no) fun _ => p2.trans pm))
      rw [p2.length_eq, len1, m2]
      exact z3
    · refine wp_if_neg (by simp [hf]) ?_
      refine wpAny_pure (wpAny_pure (hQ true h1 L1 es2 (ep + 1) t1 sb ⟨⟨_, ho1, ⟨hex.1, hex.2.1, hex.2.2⟩, rfl⟩, rows1, T1, nd1, mem1, pn1, led1, ?_⟩ (by rw [mk1]; exact ms) (fun z => absurd z no) fun _ => pm))
      rw [full1, decide_eq_true_eq] at hf
      rw [len1, mk1]
      omega
/-- a set of ints, with a table that comes by adding -/
def SetI (w : World) (h : Heap) (a : Addr) (L : List (Value × Int)) : Prop := ∃ es ep t, SetG w hashInt IsN h a L es ep t ∧ MaskS t.mask
theorem SetI.keep {h h' : Heap} {a : Addr} {L : List (Value × Int)} (R : SetI w h a L) (kp : ∀ o, h.get? a = some o → h'.get? a = some o) : SetI w h' a L := by
  obtain ⟨es, ep, t, R, ms⟩ := R
  obtain ⟨o, ho, r⟩ := R.ob
  exact ⟨es, ep, t, ⟨⟨o, kp o ho, r⟩, R.rows, R.tab, R.nd, R.mem, R.plain, R.led, R.room⟩, ms⟩
theorem setI_new {h : Heap} {a : Addr} (ho : h.get? a = some (Pw.newSetObj w)) : SetI w h a [] := by
  refine ⟨#[], 0, .fresh 0 0 (!w.params.followText "set-order"), ⟨⟨_, ho, ⟨rfl, rfl, rfl⟩, rfl⟩, rfl, ⟨List.Pairwise.nil, rfl, rfl, ⟨3, by decide, rfl⟩, (fun x hx => nomatch hx), (fun i h j hi => by simp at hi)⟩, List.nodup_nil, (fun p hp => nomatch hp), rfl, ?_, ?_⟩, .inl rfl⟩
  · show _ ∨ (!w.params.followText "set-order") = true
    cases w.params.followText "set-order"
    · exact .inr rfl
    · exact .inl rfl
  · show 0 * 5 < 7 * 3
    decide
theorem SetI.add {a : Addr} {L : List (Value × Int)} (R : SetI w s.heap a L) {x : Value} {k : Int} (hx : IsN s.heap k x) (top : L.length + 1 < 70000) {Q : Bool → Shared → Prop}
    (hQ : ∀ b h' L', Heap.SameBut a s.heap h' → SetI w h' a L' → (k ∈ L.map (·.2) → L' = L) → (k ∉ L.map (·.2) → L'.Perm ((x, k) :: L)) → Q b { s with heap := h' }) : wpAny (model P w) A (setAddHashed a x (hashInt k)) Q E s := by
  obtain ⟨es, ep, t, R, ms⟩ := R
  rcases Nat.lt_or_ge es.size scanBound with z | z
  · exact add_near R ms hx z fun b h' L' es' ep' t' sb R2 m2 c1 c2 => hQ b h' L' sb ⟨es', ep', t', R2, m2⟩ c1 c2
  · refine add_far R ms hx ?_ top fun b h' L' es' ep' t' sb R2 m2 c1 c2 => hQ b h' L' sb ⟨es', ep', t', R2, m2⟩ c1 c2
    unfold byScan
    rw [decide_eq_false (Nat.not_lt.mpr z), Bool.and_false, Bool.false_and]
end
end Pt

/-! set(list of ints), under 60,000 of them, and such a set in order -/
namespace Pt
open PySem PySem.Spec PyProof.Rows L2
open Pw (newSetObj)
section
variable {P : Program} {w : World} {A : Around} {E : Value → Shared → Prop} {s : Shared}
theorem update_nums {I : Addr} {fp wr : List Addr} {G : Array GenState → Array GenState → Prop} {n : Nat} {Pv : Nat → Value → Prop} {St : Nat → Shared → Prop} {R : Result → Shared → Prop}
    (W : WalksS P w A.in1 I fp wr G n Pv St) (S : Addr) (away : S ∉ fp) (kv : List (Value × Int)) (hn : n = kv.length) (few : kv.length < 60000) (val : ∀ i v, Pv i v → ∃ q, kv[i]? = some q ∧ v = q.1)
    (h0 : Heap) (mem : ∀ q ∈ kv, IsN h0 q.2 q.1) (S0 : h0.get? S = none) (wr0 : ∀ b ∈ wr, h0.get? b = none) :
    ∀ (k i : Nat) (s : Shared), n - i = k → i ≤ n → St i s → (∀ b o, h0.get? b = some o → s.heap.get? b = some o) → (∃ L, SetI w s.heap S L ∧ Taken kv i L) →
      (∀ s' L, Moved (S :: wr) G s s' → SetI w s'.heap S L → Taken kv n L → (∀ b o, h0.get? b = some o → s'.heap.get? b = some o) → R (.ok (.ret .none)) s') →
      codeAny (model P w) A (.builtin "set.update.loop" ⟨[.ref S, .ref I], []⟩) R s := by
  have Sw : S ∉ wr := fun h => away (W.sub _ h)
  have wide : ∀ b ∈ wr, b ∈ S :: wr := fun b hb => List.mem_cons_of_mem _ hb
  have kept : ∀ {s s' : Shared}, Moved wr G s s' → (∀ b o, h0.get? b = some o → s.heap.get? b = some o) → ∀ b o, h0.get? b = some o → s'.heap.get? b = some o := fun mv kp b o e =>
    mv.heap b o (fun hb => by rw [wr0 b hb] at e; cases e) (kp b o e)
  intro k
  induction k with
  | zero =>
    intro i s ek le st kp ⟨L, V, g⟩ fin
    obtain rfl : i = n := by omega
    refine codeAny_builtin F.entry_set_update_loop ?_
    rw [Around.under_plainId F.plain_set_update_loop _]
    show wpAny _ A.in1 (pyNext (.ref I) >>= _) _ _ s
    refine wpAny_bind (W.done s _ _ st fun s' mv => ?_)
    have kp' := kept mv kp
    exact wpAny_pure (fin s' L (mv.mono wide) (V.keep fun o e => mv.heap S o Sw e) g kp')
  | succ k ih =>
    intro i s ek le st kp ⟨L, V, g⟩ fin
    have lt : i < n := by omega
    refine codeAny_builtin F.entry_set_update_loop ?_
    rw [Around.under_plainId F.plain_set_update_loop _]
    show wpAny _ A.in1 (pyNext (.ref I) >>= _) _ _ s
    refine wpAny_bind (W.item i s _ _ lt st fun v s' hP st' mv => ?_)
    obtain ⟨q, hq, rfl⟩ := val i v hP
    have kp' := kept mv kp
    have V' : SetI w s'.heap S L := V.keep fun o e => mv.heap S o Sw e
    have hx : IsN s'.heap q.2 q.1 := mem q (List.mem_of_getElem? hq)
    obtain ⟨⟨b, eb⟩, hb⟩ := id hx
    rw [eb] at hx ⊢
    show wpAny _ A.in1 (holding [Value.int q.2 b] (setAdd S (.int q.2 b)) >>= _) _ _ s'
    refine wpAny_bind (wpAny_holding ?_)
    unfold setAdd
    refine wpAny_holding (wpAny_bind (wpAny_pyHash_int ?_))
    refine SetI.add (s := { s' with toks := s'.toks + 1 }) V' hx (by have := g.len; omega) fun bo h' L' sb V2 c1 c2 => ?_
    have g' : Taken kv (i + 1) L' := g.next hq c1 (by rw [eb]; exact c2)
    have kp2 : ∀ c o, h0.get? c = some o → h'.get? c = some o := fun c o e => (sb.2 c fun z => by rw [z, S0] at e; cases e).trans (kp' c o e)
    refine wpAny_pure ⟨plainId_quiet F.plain_set_update_loop _, ih (i + 1) _ (by omega) lt (W.frame _ s' _ _ st' (Nat.le_succ _) fun c hc o e => ?_) kp2 ⟨L', V2, g'⟩ fun s2 L2 mv2 V3 g3 kp3 => ?_⟩
    · exact (sb.2 c fun z => away (z ▸ hc)).trans e
    · refine fin s2 L2 (Moved.trans W.gtrans ((mv.mono wide).then_heap (Nat.le_succ _) fun c o hc e => ?_) mv2) V3 g3 kp3
      exact (sb.2 c fun z => hc (z ▸ List.mem_cons_self)).trans e
/-- what is known once the numbers are in -/
def FilledI (w : World) (h : Heap) (S : Addr) (kv : List (Value × Int)) (h' : Heap) : Prop := ∃ L, SetI w h' S L ∧ Taken kv kv.length L ∧ ∀ b o, b ≠ S → h.get? b = some o → h'.get? b = some o
theorem fillI {S l : Addr} {its : Array Value} {kv : List (Value × Int)} {h0 : Heap} (calm : A.handled = none) (new : s.heap.get? S = some (newSetObj w)) (ne : S ≠ l) (li : s.heap.IsList l its) (ok : its.toList = kv.map (·.1)) (few : kv.length < 60000)
    (mem : ∀ q ∈ kv, IsN h0 q.2 q.1) (S0 : h0.get? S = none) (top0 : h0.objs.size ≤ s.heap.objs.size) (kp0 : ∀ b o, h0.get? b = some o → s.heap.get? b = some o) :
    codeAny (model P w) A (.call (.builtin "set.__init__") ⟨[.ref S, .ref l], []⟩) (wants (fun r s2 => r = .none ∧ ∃ h' tk, s2 = { s with heap := h', toks := tk } ∧ FilledI w s.heap S kv h') E) s := by
  refine codeAny_call_builtin F.called_set.init.plain F.entry_set_init (check_set_init_1 (s := s) ⟨_, new, rfl⟩ ?_)
  have lenI : its.size = kv.length := by
    have z := congrArg List.length ok
    rw [List.length_map, Array.length_toList] at z
    exact z
  obtain ⟨⟨c0, d0, dt0, sl0⟩, ho, hc, n0, hd⟩ := id li
  dsimp only at hc hd
  cases hc
  cases hd
  have a1 := F.sub_list_set
  have a2 := F.sub_list_frozenset
  have a3 : (Value.type "list" == Value.type "dict") = false := by decide
  unfold Builtin.«set.__init__» noKeywords Builtin.Frozenset.updateFrom
  generalize hit : pyIter = walk
  wp_walk
  subst hit
  refine wpAny_pyIter_list li (wpAny_bind (wpAny_runValue ?_))
  obtain ⟨it, eit⟩ : ∃ it, s.heap.objs.size = it := ⟨_, rfl⟩
  have ltS : S < it := eit ▸ Heap.lt_size new
  have ltl : l < it := eit ▸ Heap.lt_size ho
  have away : S ∉ [it, l] := fun m => (List.mem_cons.mp m).elim (fun e => absurd e (Nat.ne_of_lt ltS)) fun m => absurd (List.mem_singleton.mp m) ne
  have calm3 : A.in1.in1.handled = none := by simp [calm]
  have it0 : h0.get? it = none := by
    cases z : h0.get? it with
    | none => rfl
    | some o =>
      exact absurd (Nat.lt_of_lt_of_le (Heap.lt_size z) top0) (by rw [eit]; exact Nat.lt_irrefl it)
  rw [eit]
  refine update_nums (Walks.list (by simpa using calm3) it l (Nat.ne_of_lt ltl) its).toS S away kv lenI few ?val h0 mem S0 (fun b hb => by rw [List.mem_singleton.mp hb]; exact it0) its.size 0 _ rfl (Nat.zero_le _)
    ⟨⟨_, by rw [← eit]; exact Heap.get?_push_size _ rfl, rfl, rfl⟩, li.push _⟩ (fun b o e => Heap.get?_push_of_some _ (kp0 b o e)) ⟨[], setI_new (Heap.get?_push_of_some _ new), ⟨(fun q h => nomatch h), (fun q h => absurd h (by simp)), Nat.le_refl _⟩⟩ fun s2 L mv hV g kp => ?_
  case val =>
    intro i v e
    have e2 : its.toList[i]? = some v := by rw [Array.getElem?_toList, e]
    rw [ok, List.getElem?_map, Option.map_eq_some_iff] at e2
    obtain ⟨q, a, b⟩ := e2
    exact ⟨q, a, b.symm⟩
  obtain ⟨h2, g2, d2, t2, o2⟩ := s2
  cases mv.gens
  cases mv.drawn
  cases mv.os
  refine wpAny_pure (wpAny_pure ⟨rfl, h2, t2, rfl, L, hV, lenI ▸ g, fun b o nb e => ?_⟩)
  have ltb : b < it := eit ▸ Heap.lt_size e
  refine mv.heap b o (fun m => ?_) (Heap.get?_push_of_some _ e)
  rcases List.mem_cons.mp m with q | q
  · exact nb q
  · exact absurd (List.mem_singleton.mp q) (Nat.ne_of_lt ltb)
theorem set_of_nums {l : Addr} {its : Array Value} (kv : List (Value × Int)) {Q : Value → Shared → Prop} (calm : A.handled = none) (li : s.heap.IsList l its) (ok : its.toList = kv.map (·.1)) (few : kv.length < 60000) (mem : ∀ q ∈ kv, IsN s.heap q.2 q.1)
    (q : ∀ (h' : Heap) (tk : Nat) (L : List (Value × Int)), SetI w h' s.heap.objs.size L → Taken kv kv.length L → (∀ b o, s.heap.get? b = some o → h'.get? b = some o) → Q (.ref s.heap.objs.size) { s with heap := h', toks := tk }) : wpAny (model P w) A (call (.type "set") [.ref l]) Q E s := by
  have ft := F.called_set
  obtain ⟨c, tl, m1⟩ := ft.mro
  have m2 := ft.made
  have m3 := ft.sub
  have m4 := ft.notType
  have m5 := ft.canCreate
  have m6 := F.typeCall_set_1 (.ref l)
  have m7 := ft.init.lookup
  have ltl : l < s.heap.objs.size := by
    obtain ⟨_, e, _⟩ := li
    exact Heap.lt_size e
  obtain ⟨s1, e1⟩ : ∃ s1 : Shared, s1 = { s with heap := s.heap.push (newSetObj w) } := ⟨_, rfl⟩
  have new : s1.heap.get? s.heap.objs.size = some (newSetObj w) := by rw [e1]; exact Heap.get?_push_size _ rfl
  have isT : s1.TypeIs (.ref s.heap.objs.size) "set" := ⟨_, new, rfl⟩
  have m8 := ft.init.bind (.ref s.heap.objs.size)
  have none0 : s.heap.get? s.heap.objs.size = none := by
    cases z : s.heap.get? s.heap.objs.size with
    | none => rfl
    | some o => exact absurd (Heap.lt_size z) (Nat.lt_irrefl _)
  refine wpAny_call (codeAny_of_tree (show wpAny _ _ (callAny (.type "set") _) _ _ s from ?_))
  refine (wpAny_pure ⟨Code.quiet_builtin _ (by decide +kernel), codeAny_builtin F.entry_type_call ?_⟩)
  rw [Around.under_plain (weight_type_call_type "set" [.ref l] []) rfl]
  repeat (any_goals (first | assumption | wp_step))
  refine codeAny_mono (code_set_led1 (E := E) (.ref l) (Q₁ := fun x y => x = .ref s.heap.objs.size ∧ y = s1) ⟨rfl, e1.symm⟩) fun r y z => ?_
  match r, z with
  | .error _, z => exact z
  | .ok (.ret _), ⟨hx, hy⟩ =>
    subst hx hy
    repeat (any_goals (first | assumption | wp_step))
    refine codeAny_mono (fillI (E := E) (kv := kv) (h0 := s.heap) (s := y) (by simpa using calm) new (Nat.ne_of_gt ltl) (by rw [e1]; exact li.push _) ok few mem none0 (by rw [e1]; exact Nat.le_of_lt (by rw [Heap.size_push]; exact Nat.lt_succ_self _)) (fun b o e => by rw [e1]; exact Heap.get?_push_of_some _ e)) fun r2 y2 z2 => ?_
    match r2, z2 with
    | .error _, z2 => exact z2
    | .ok (.ret _), ⟨hr, h2, t2, hy2, L, hV, g, hk⟩ =>
      subst hr hy2
      repeat (any_goals (first | assumption | wp_step))
      subst e1
      exact q h2 t2 L hV g fun b o e => hk b o (Nat.ne_of_lt (Heap.lt_size e)) (Heap.get?_push_of_some _ e)
/-- iter(set), the set plain -/
theorem iter_plain {a : Addr} {es : Array (Int × Value)} {ep : Nat} {t : SetTable} {Q : Value → Shared → Prop} (at_ : SetAt s.heap a es ep t) (fit : t.fits es.size = true) (rise : Ris t.place.toList) (pl : t.plain = true) (led : w.params.followText "set-order" = true ∨ t.led = true)
    (q : ∀ s2 I, SetIt P w s a es s2 I → Q (.ref I) s2) : wpAny (model P w) A (pyIter (.ref a)) Q E s := by
  obtain ⟨o, e, cl, dt⟩ := id at_
  have ty : s.TypeIs (.ref a) "set" := ⟨o, e, cl⟩
  have ne : a ≠ s.heap.objs.size := Nat.ne_of_lt (Heap.lt_size e)
  have nodraw : (!t.plain && decide (es.size > 1)) = false := by rw [pl]; rfl
  refine wpAny_pyIter_slot ty F.slot_set_iter (wpAny_call_entry F.slot_set_iter ty entry_s_iter ?_ (F.args_set_iter_1 _))
  (unfold Builtin.«frozenset.__iter__»; refine wpAny_bind (m := Builtin.Frozenset.slot0 "__iter__" _) (wpAny_of_eq (a := a) (by rfl) ?_))
  (refine wpAny_bind (m := Builtin.Frozenset.sizeOf a) ?_; unfold Builtin.Frozenset.sizeOf)
  refine wpAny_bind (wpAny_setEntries_of e dt fit (wpAny_pure ?_))
  first | refine wpAny_bind (setDrawn_at at_ fit ?_) | refine wpAny_bind (wpAny_bind (setDrawn_at at_ fit ?_))
  have fps : ∀ b ∈ [s.heap.objs.size, a], b = a ∨ s.heap.objs.size ≤ b := fun b m => by
    rcases List.mem_cons.mp m with z | z
    · exact .inr (Nat.le_of_eq z.symm)
    · exact .inl (List.mem_singleton.mp z)
  cases tx : w.params.followText "set-order" with
  | true =>
    refine wp_if_neg (by simp) ?_
    first | refine wpAny_bind (wpAny_pure ?_) | refine wpAny_pure ?_
    refine wpAny_bind (wpAny_setEpoch_of e dt fit ?_)
    refine wpAny_bind (wpAny_newObj_type (wpAny_pure ⟨_, rfl, "set_iterator", _, ⟨_, Heap.get?_push_size _ rfl, rfl⟩, slot_si_next.lookup, q _ _ ?_⟩))
    refine SetIt.of (fun A' hA' => walks_text (P := P) (ep := ep) hA' ne fit tx) (out := (pickOrder (w.params.setOrder a ep) es).toList.map (·.2)) (by rw [List.length_map, Array.length_toList]) (fun b u z => Heap.get?_push_of_some _ z) rfl rfl rfl (Nat.le_refl _) fps ((pick_perm (w.params.setOrder a ep) es).map _) (fun j v z => ?_) ⟨⟨_, Heap.get?_push_size _ rfl, rfl, rfl⟩, at_.at fun u z => Heap.get?_push_of_some _ z⟩
    rw [List.getElem?_map, Array.getElem?_toList]
    exact z
  | false =>
    have ld : t.led = true := led.resolve_left (by rw [tx]; decide)
    rw [nodraw]
    refine wp_if_neg (by simp) ?_
    first | refine wpAny_bind (wpAny_pure ?_) | refine wpAny_pure ?_
    refine wpAny_bind (wpAny_setEpoch_of e dt fit ?_)
    refine wpAny_bind (wpAny_newObj_type (wpAny_pure ⟨_, rfl, "set_iterator", _, ⟨_, Heap.get?_push_size _ rfl, rfl⟩, slot_si_next.lookup, q _ _ ?_⟩))
    refine SetIt.of (fun A' hA' => walks_led (P := P) (ep := ep) hA' ne fit rise tx nodraw ld) (out := es.toList.map (·.2)) (by rw [List.length_map, Array.length_toList]) (fun b u z => Heap.get?_push_of_some _ z) rfl rfl rfl (Nat.le_refl _) fps (List.Perm.refl _) (fun j v z => ?_) ⟨⟨_, Heap.get?_push_size _ rfl, rfl, rfl⟩, at_.at fun u z => Heap.get?_push_of_some _ z⟩
    rw [List.getElem?_map, Array.getElem?_toList]
    exact z
/-- its members in a list, a plain set of up to the line -/
theorem collect_plain {a : Addr} {es : Array (Int × Value)} {ep : Nat} {t : SetTable} {Q : List Value → Shared → Prop} (calm : A.handled = none) (at_ : SetAt s.heap a es ep t) (fit : t.fits es.size = true) (line : es.size ≤ sizeLine) (rise : Ris t.place.toList) (pl : t.plain = true)
    (led : w.params.followText "set-order" = true ∨ t.led = true)
    (q : ∀ s' out, (∀ b o, s.heap.get? b = some o → s'.heap.get? b = some o) → s.heap.objs.size ≤ s'.heap.objs.size → s'.gens = s.gens → s'.os = s.os → out.Perm (es.toList.map (·.2)) → Q out s') : wpAny (model P w) A (collect (.ref a)) Q E s := by
  obtain ⟨o, e, cl, dt⟩ := id at_
  obtain ⟨n0, en0⟩ : ∃ n0, n0 = s.heap.objs.size := ⟨_, rfl⟩
  have lta : a < n0 := by rw [en0]; exact Heap.lt_size e
  have na : n0 ≠ a := Nat.ne_of_gt lta
  unfold collect
  refine wpAny_bind (wpAny_runValue (codeAny_builtin F.entry_proto_collect ?_))
  (rw [Around.under_plainId F.plain_proto_collect _]; show wpAny _ A.in1 (newList [] >>= fun l => again (.builtin "list.__iadd__" ⟨[l, .ref a], []⟩)) _ _ s)
  refine wpAny_bind (wpAny_newObj_type (wpAny_pure ⟨plainId_quiet F.plain_list_iadd _, codeAny_builtin F.entry_list_iadd ?_⟩))
  obtain ⟨lo, elo⟩ : ∃ lo : Obj, lo = { cls := .type "list", data := .seq ([] : List Value).toArray } := ⟨_, rfl⟩
  rw [← elo, ← en0]
  have hL : (s.heap.push lo).get? n0 = some lo := by rw [en0]; exact Heap.get?_push_size _ (by rw [elo]; rfl)
  have at1 : SetAt (s.heap.push lo) a es ep t := at_.at fun u z => Heap.get?_push_of_some _ z
  have top1 : (s.heap.push lo).objs.size = n0 + 1 := by rw [en0]; exact size_push' _ _
  (rw [Around.under_plainId F.plain_list_iadd _]; show wpAny _ A.in1 (Builtin.List.listExtendWith (.ref n0) (.ref a) (.ref n0)) _ _ _)
  unfold Builtin.List.listExtendWith
  refine wpAny_bind (wpAny_typeOf (T := "set") ⟨o, Heap.get?_push_of_some _ e, cl⟩ ?_)
  have c1 : Builtin.List.listSameRef (.ref n0) (.ref a) = false := by simp [Builtin.List.listSameRef, na]
  have c2 : (Value.type "set" == Value.type "list") = false ∧ (Value.type "set" == Value.type "tuple") = false := by decide
  simp only [c1, c2.1, c2.2, Bool.or_false, Bool.false_eq_true, if_false]
  refine wpAny_bind (iter_plain (s := { s with heap := s.heap.push lo }) at1 fit rise pl led fun s2 I it => ?_)
  obtain ⟨fp, St, out, Pv, k2, g2, o2, t2, hI, hfp, hp, hW, hPv, hst⟩ := it
  have hI' : n0 + 1 ≤ I := by rw [← top1]; exact hI
  have off : n0 ∉ fp := fun m => by
    rcases hfp _ m with z | z
    · exact na z
    · have z' : n0 + 1 ≤ n0 := by rw [← top1]; exact z
      omega
  have ty2 : s2.TypeIs (.ref a) "set" := ⟨o, k2 a o (Heap.get?_push_of_some _ e), cl⟩
  refine wpAny_bind (wpAny_holding ?_)
  (unfold Builtin.List.listLengthHint; refine wpAny_bind (wpAny_specialOf ty2 F.slot_set_len.lookup ?_))
  (generalize hid : ("set.__len__" : String) = idl; (fail_if_success (clear hid idl)); wp_delta; rw [show splitId idl = some ("set", "__len__") from by subst hid; decide +kernel]; subst hid)
  refine wpAny_bind (wpAny_isInstance (b := true) ty2 sub_set_self ?_)
  (show wpAny _ A.in1 (typeOf (.ref a) >>= _) _ _ _; refine wpAny_bind (wpAny_typeOf ty2 (wpAny_pure ?_)))
  show wpAny _ A.in1 (rule "list.extend.makes-room" >>= fun _ => Builtin.List.listTouch (.ref n0) >>= fun _ => again (.builtin "list.extend.loop" ⟨[.ref n0, .ref I, .ref n0], []⟩)) _ _ _
  refine wpAny_bind (wpAny_rule (wpAny_bind ?_))
  show wpAny _ A.in1 (updateSeq n0 (·.push .none) >>= fun _ => updateSeq n0 (·.pop)) _ _ _
  have h2 : s2.heap.get? n0 = some lo := k2 _ _ hL
  have isL : ∃ xs n, lo.data = .seq xs n ∧ lo.cls = .type "list" := ⟨_, _, by rw [elo], by rw [elo]⟩
  subst elo
  refine wpAny_bind (wpAny_updateSeq h2 rfl ?_)
  have h3 := Heap.get?_update_self (Obj.mapSeq (·.push Value.none)) h2 rfl
  refine wpAny_updateSeq h3 rfl ?_
  have h4 := Heap.get?_update_self (Obj.mapSeq (·.pop)) h3 rfl
  obtain ⟨h5, eh5⟩ : ∃ h5, h5 = (s2.heap.update n0 (Obj.mapSeq (·.push Value.none))).update n0 (Obj.mapSeq (·.pop)) := ⟨_, rfl⟩
  have else_ : ∀ b u, b ≠ n0 → s2.heap.get? b = some u → h5.get? b = some u := fun b u nb z => by
    rw [eh5]
    exact (Heap.get?_update_other _ _ (Ne.symm nb)).trans ((Heap.get?_update_other _ _ (Ne.symm nb)).trans z)
  have W := hW A.in1 calm
  have st5 : St 0 h5 := W.frame 0 _ _ hst fun b m u z => else_ b u (fun y => off (y ▸ m)) z
  have short : out.length ≤ sizeLine := by rw [hp.length_eq, List.length_map, Array.length_toList]; exact line
  rw [← eh5] at h4 ⊢
  refine wpAny_pure ⟨plainId_quiet F.plain_extend_loop _, codeAny_extend_loopS W.toS short _ off _ out.length 0 _ _ _ rfl (Nat.zero_le _) st5 h4 (ItemsOf.nil Pv) fun s' acc c' mv hS' got => ?_⟩
  show wpAny _ A (load n0 >>= _) _ _ s'
  refine wpAny_bind (wpAny_load hS' (wpAny_pure ?_))
  have eo := items_out got hPv
  show Q acc.toList s'
  rw [eo]
  refine q s' out (fun b u z => ?_) (by rw [← en0]; exact Nat.le_of_lt (Heap.lt_size hS')) (Eq.trans mv.gens g2) (Eq.trans mv.os o2) hp
  have bl : b < n0 := by rw [en0]; exact Heap.lt_size z
  refine mv.heap b u (fun y => ?_) (else_ b u (Nat.ne_of_lt bl) (k2 b u (Heap.get?_push_of_some _ z)))
  rcases List.mem_cons.mp y with y | y
  · exact absurd bl (by rw [y]; exact Nat.lt_irrefl _)
  · exact absurd bl (by rw [List.mem_singleton.mp y]; exact Nat.not_lt_of_le (Nat.le_of_succ_le hI'))
end
/-- a set of ints as a tracked thing: its members are those of ns -/
def SetIO (w : World) (a : Addr) (ns : List Int) : HO := .ext fun h => ∃ L, SetI w h a L ∧ (∀ j, j ∈ L.map (·.2) ↔ j ∈ ns) ∧ L.length ≤ ns.length
theorem setIO_new {P : Program} {w : World} {H : Hp} {h : Heap} {a : Addr} {ns : List Int} {L : List (Value × Int)} (R : SetI w h a L) (m : ∀ j, j ∈ L.map (·.2) ↔ j ∈ ns) (le : L.length ≤ ns.length) : ObjOk P w H h a (SetIO w a ns) := by
  have ⟨_, _, _, R0, _⟩ := R
  obtain ⟨o, ho, _⟩ := R0.ob
  exact ⟨⟨L, R, m, le⟩, ⟨o, ho⟩, fun h1 h2 ⟨L', R', m', le'⟩ k => ⟨L', R'.keep k, m', le'⟩⟩
/-- set(l), l a list of ints of no great size -/
def rSetLB (K : PySem.W.Frag) (w : World) : List V → Hp → VK → Prop := fun vs H Q => ∃ (l : Addr) (ns : List Int), vs = [.ref l] ∧ SqL K H l (ns.map V.int) ∧ (∀ n ∈ ns, 0 ≤ n ∧ n < 2 ^ 60) ∧ ns.length < 60000 ∧ ∀ a : Addr, H a = none → Q (.ref a) (upd H a (SetIO w a ns))
theorem cr_setLB {X : Cx} (calm : X.calm = true) : CallR X (.type "set") (rSetLB X.K X.w) := by
  intro pins s σ H vs us Q I r asked
  obtain ⟨l, ns, rfl, hq, sm, few, q⟩ := asked
  rw [Vals.ref1 r]
  obtain ⟨its, rv, pl, _⟩ := I.list hq
  have ok : IntsAre its ns := ints_of_vals rv
  obtain ⟨kv, ekv⟩ : ∃ kv, kv = its.zip ns := ⟨_, rfl⟩
  have li : its.length = ns.length := ok.length
  have len : kv.length = ns.length := by rw [ekv, List.length_zip, li, Nat.min_self]
  have fst_ : its = kv.map (·.1) := by rw [ekv, List.map_fst_zip (Nat.le_of_eq li)]
  have snd_ : ns = kv.map (·.2) := by rw [ekv, List.map_snd_zip (Nat.le_of_eq li.symm)]
  have mem : ∀ q ∈ kv, IsN s.heap q.2 q.1 := fun q hq => by
    obtain ⟨i, hi, e⟩ := List.getElem_of_mem hq
    have e2 : kv[i]? = some q := by rw [List.getElem?_eq_getElem hi, e]
    rw [ekv, List.getElem?_zip_eq_some] at e2
    obtain ⟨t, z⟩ := IntsAre.int_at ok i q.1 e2.1
    have e3 : ns.getD i 0 = q.2 := by rw [List.getD_eq_getElem?_getD, e2.2]; rfl
    rw [e3] at z
    exact ⟨⟨t, z⟩, sm q.2 (List.mem_of_getElem? e2.2)⟩
  refine set_of_nums (P := X.prog) kv (I.ok.hd calm) pl.isList fst_ (by omega) mem fun h' tk L V g k => ?_
  have free : H s.heap.objs.size = none := I.hok.fresh (Nat.le_refl _)
  refine ⟨.ref s.heap.objs.size, _, I.laid (t' := tk) k (Nat.le_refl _) (setIO_new V (fun j => ?_) (by rw [← len]; exact g.len)), rfl, q _ free⟩
  rw [snd_]
  constructor
  · intro h
    obtain ⟨p, hp, rfl⟩ := List.mem_map.mp h
    have z := g.sub p hp
    rw [List.take_length] at z
    exact List.mem_map.mpr ⟨p, z, rfl⟩
  · intro h
    obtain ⟨p, hp, rfl⟩ := List.mem_map.mp h
    exact g.all p (by rw [List.take_length]; exact hp)
/-- sorted of such a set -/
def rSortedLB (w : World) : List V → Hp → VK → Prop := fun vs H Q => ∃ (a : Addr) (ns : List Int), vs = [V.ref a] ∧ H a = some (SetIO w a ns) ∧ ns.length < 60000 ∧
  ∀ (zs : List Int) (p : Addr), zs.Pairwise (· < ·) → (∀ k : Int, k ∈ zs ↔ k ∈ ns) → zs.length ≤ ns.length → H p = none → Q (.ref p) (upd H p (.lst (zs.map V.int)))
theorem cr_sortedLB {X : Cx} (calm : X.calm = true) : CallR X (.builtin "sorted") (rSortedLB X.w) := by
  intro pins s σ H vs us Q I r asked
  obtain ⟨a, ns, rfl, ha, few, q⟩ := asked
  obtain ⟨L, ⟨es, ep, t, R, ms⟩, hm, le⟩ : ∃ L, SetI X.w s.heap a L ∧ (∀ j, j ∈ L.map (·.2) ↔ j ∈ ns) ∧ L.length ≤ ns.length := (I.hok a _ ha).1
  obtain ⟨o, ho, hex, hd⟩ := R.ob
  have size := R.size
  rw [Vals.ref1 r]
  refine Calls.call_function_entry PyProof.Rows.kind_sorted PyProof.Rows.plain_sorted PyProof.Rows.entry_sorted (PyProof.Rows.args_sorted1 _) ?_
  unfold Builtin.«sorted»
  refine wpAny_bind (m := checkCount "sorted" 1 1 _) (wpAny_pure ?_)
  refine wpAny_bind (collect_plain (A := X.A.in1) (I.ok.hd calm) ⟨o, ho, hex.1, hd⟩ R.fits (by rw [size, sizeLine_eq]; omega) R.tab.rise R.plain R.led fun s1 vs k1 hz g1 o1 pm => ?_)
  have pmL : vs.Perm (L.map (·.1)) := by
    have e : es.toList.map (·.2) = L.map (·.1) := by
      rw [R.rows, rowsG, List.map_map]
      rfl
    rw [← e]
    exact pm
  have vlen : vs.length = L.length := by rw [pmL.length_eq, List.length_map]
  have line : vs.length ≤ sizeLine := by rw [sizeLine_eq]; omega
  have hS : IntsAre vs (vs.map Builtin.Re.reRawOf) := ints_of vs fun v hv => by
    obtain ⟨p, hp, rfl⟩ := List.mem_map.mp (pmL.mem_iff.mp hv)
    obtain ⟨⟨tk, e⟩, _⟩ := R.mem p hp
    exact ⟨p.2, tk, e⟩
  have pk : (vs.map Builtin.Re.reRawOf).Perm (L.map (·.2)) := by
    have z := pmL.map Builtin.Re.reRawOf
    rw [List.map_map] at z
    have e : L.map (Builtin.Re.reRawOf ∘ fun x => x.1) = L.map (·.2) := List.map_congr_left fun p hp => by
      obtain ⟨⟨tk, e⟩, _⟩ := R.mem p hp
      show Builtin.Re.reRawOf p.1 = p.2
      rw [e]
      rfl
    rw [e] at z
    exact z
  refine wpAny_bind (wpAny_newList ?_ line)
  have hoL : (s1.heap.push (seqObj "list" vs.toArray 0)).get? s1.heap.objs.size = some (seqObj "list" vs.toArray 0) := Heap.get?_push_size _ rfl
  refine wpAny_bind (wpAny_holding (wpAny_call_entry PyProof.Rows.slot_list_sort ⟨_, hoL, rfl⟩ PyProof.Rows.entry_list_sort
    (SrtO.list_sort_ord (s := { s1 with heap := s1.heap.push (seqObj "list" vs.toArray 0) }) SrtO.swo_int hoL line (fun h2 => SrtO.ints_sortable hS h2) fun out h1 h2 => ⟨_, rfl, ?_⟩) (PyProof.Rows.args_list_sort _)))
  obtain ⟨g1', g2, g3⟩ := SrtO.ints_out hS h1 h2
  obtain ⟨e', he'⟩ := PyProof.Rows.sortedHeap_at (vs := vs) (out := out.toArray) hoL
  have pn : (out.map SrtO.iv).Perm (L.map (·.2)) := g2.trans pk
  have hlen : ((out.map SrtO.iv).map V.int).length ≤ sizeLine := by
    rw [List.length_map, g2.length_eq, List.length_map]
    exact line
  have free : H s1.heap.objs.size = none := I.hok.fresh hz
  have kept : ∀ b u, s.heap.get? b = some u → (sortedHeap (s1.heap.push (seqObj "list" vs.toArray 0)) s1.heap.objs.size vs out.toArray).get? b = some u := fun b u e => by
    have lt := Heap.lt_size (k1 b u e)
    rw [PyProof.Rows.sortedHeap_old (Nat.ne_of_lt lt) (by rw [size_push']; exact Nat.lt_succ_of_lt lt)]
    exact Heap.get?_push_of_some _ (k1 b u e)
  have J : Inv X pins σ (upd H s1.heap.objs.size (.lst ((out.map SrtO.iv).map V.int))) { s with heap := sortedHeap (s1.heap.push (seqObj "list" vs.toArray 0)) s1.heap.objs.size vs out.toArray, gens := s1.gens, drawn := s1.drawn, toks := s1.toks } :=
    I.call (ch := []) (Un.laid kept hz free) (I.hok.laid kept hz ⟨hlen, out, e', vals_of_ints g1', he'⟩) (by rw [g1]; exact I.bare) (fun _ z => nomatch z)
  refine wpAny_pure ⟨_, rfl, ?_⟩
  refine ⟨.ref s1.heap.objs.size, _, ?_, rfl, q (out.map SrtO.iv) _ (lt_of_le_nodup _ g3 (pn.nodup_iff.mpr R.nd)) (fun k => by rw [pn.mem_iff, hm k]) (by rw [pn.length_eq, List.length_map]; exact le) free⟩
  have same : ({ s1 with heap := sortedHeap (s1.heap.push (seqObj "list" vs.toArray 0)) s1.heap.objs.size vs out.toArray } : Shared) = { s with heap := sortedHeap (s1.heap.push (seqObj "list" vs.toArray 0)) s1.heap.objs.size vs out.toArray, gens := s1.gens, drawn := s1.drawn, toks := s1.toks } := by
    cases s1
    cases s
    cases o1
    rfl
  rw [← same] at J
  exact J
end Pt

/-! full and free numbers by their parts; contracts of the pairs, the kin and the desk's texts -/
namespace Pm
def Full (n : Nat) : Prop := ∀ p, Prime p → p ∣ n → 2 ≤ vl p n
def Free (n e : Nat) : Prop := ∀ p, Prime p → vl p n < e
theorem pow_le_of {D q k l : Nat} (h : D ≤ q) (l1 : 1 ≤ l) (d : q ^ k ∣ l) : D ^ k ≤ l := Nat.le_trans (Nat.pow_le_pow_left h k) (Nat.le_of_dvd l1 d)
theorem full_parted {n l D : Nat} {L : List (Nat × Nat)} (h : Parted n 5 L l D) (n1 : 1 ≤ n) : ((∀ w ∈ L, 1 < w.2) ∧ IsPow l) ↔ Full n := by
  have hP := h.pt
  have l1 := hP.l1
  have big : ∀ q, Prime q → q ∣ l → D ≤ q := fun q hq d => Nat.le_of_not_lt fun z => hP.lo q hq z d
  constructor
  · rintro ⟨h1, b, k, hk, e⟩ p hp hd
    rcases Nat.lt_or_ge p D with z | z
    · exact h1 _ (hP.all p hp z hd)
    · have v := hP.hi p hp z
      have v1 := (vl_pos hp n1).mpr hd
      have b1 : 1 ≤ b := Nat.pos_of_ne_zero fun w => by
        subst w
        rw [Nat.zero_pow (by omega)] at e
        omega
      rw [← v, ← e, vl_pow hp b1] at v1 ⊢
      have := Nat.pos_of_ne_zero (n := vl p b) fun w => by
        rw [w, Nat.mul_zero] at v1
        exact absurd v1 (Nat.lt_irrefl 0)
      exact Nat.le_trans hk (Nat.le_mul_of_pos_right k this)
  · intro hF
    refine ⟨fun w hw => ?_, ?_⟩
    · obtain ⟨a, b, c, d⟩ := hP.pr w hw
      rw [c]
      exact hF _ a ((vl_pos a n1).mp (by rw [← c]; exact d))
    · have hl : ∀ q, Prime q → q ∣ l → 2 ≤ vl q l := fun q hq d => by
        have Dq := big q hq d
        rw [hP.hi q hq Dq]
        refine hF q hq ((vl_pos hq n1).mp ?_)
        rw [← hP.hi q hq Dq]
        exact (vl_pos hq l1).mpr d
      rcases Nat.eq_or_lt_of_le l1 with z | z
      · rw [← z]; exact isPow1
      obtain ⟨q, hq, qd⟩ := prime_factor l z
      obtain ⟨m, em, nm, m1⟩ := vl_split hq l1
      have a2 := hl q hq qd
      obtain ⟨a, ea⟩ : ∃ a, a = vl q l := ⟨_, rfl⟩
      rw [← ea] at em a2
      rcases Nat.eq_or_lt_of_le m1 with z1 | z1
      · exact ⟨q, a, a2, by rw [em, ← z1, Nat.mul_one]⟩
      obtain ⟨r, hr, rd⟩ := prime_factor m z1
      have rl : r ∣ l := by rw [em]; exact Nat.dvd_trans rd (Nat.dvd_mul_left _ _)
      have qr : r ≠ q := fun w => nm (w ▸ rd)
      obtain ⟨m', em', nm', m1'⟩ := vl_split hr m1
      have b2 := hl r hr rl
      have vb : vl r l = vl r m := by
        conv => lhs; rw [em]
        rw [vl_mul hr (Nat.pow_pos (by have := hq.1; omega)) m1, vl_pow hr (by have := hq.1; omega), vl_prime_ne hr hq qr, Nat.mul_zero, Nat.zero_add]
      rw [vb] at b2
      obtain ⟨b, eb⟩ : ∃ b, b = vl r m := ⟨_, rfl⟩
      rw [← eb] at em' b2
      have el : l = q ^ a * (r ^ b * m') := by rw [← em']; exact em
      have D2 := h.d2
      have lt := h.end'
      have hqa : D ^ a ≤ q ^ a := Nat.pow_le_pow_left (big q hq qd) a
      have hrb : D ^ b ≤ r ^ b := Nat.pow_le_pow_left (big r hr rl) b
      have low : D ^ (a + b) * m' ≤ l := by
        rw [el, Nat.pow_add, Nat.mul_assoc]
        exact Nat.mul_le_mul hqa (Nat.mul_le_mul_right _ hrb)
      have ab : a + b < 5 := Nat.lt_of_not_le fun w => by
        have h1 : D ^ 5 ≤ D ^ (a + b) := Nat.pow_le_pow_right (by omega) w
        have h2 : D ^ (a + b) * 1 ≤ D ^ (a + b) * m' := Nat.mul_le_mul_left _ m1'
        omega
      obtain rfl : a = 2 := by omega
      obtain rfl : b = 2 := by omega
      have md : m' < D := Nat.lt_of_not_le fun w => by
        have h1 : D ^ (2 + 2) * D ≤ D ^ (2 + 2) * m' := Nat.mul_le_mul_left _ w
        rw [← Nat.pow_succ] at h1
        have h1 : D ^ 5 ≤ _ := h1
        omega
      have one : m' = 1 := by
        rcases Nat.eq_or_lt_of_le m1' with w | w
        · exact w.symm
        · obtain ⟨s, hs, sd⟩ := prime_factor m' w
          have : D ≤ s := big s hs (by rw [el]; exact Nat.dvd_trans (Nat.dvd_trans sd (Nat.dvd_mul_left _ _)) (Nat.dvd_mul_left _ _))
          have := Nat.le_of_dvd m1' sd
          omega
      refine ⟨q * r, 2, Nat.le_refl 2, ?_⟩
      rw [el, one, Nat.mul_one, Nat.mul_pow]
theorem mul_one_iff {a b : Nat} : a * b = 1 ↔ a = 1 ∧ b = 1 := by
  constructor
  · intro h
    exact ⟨Nat.dvd_one.mp (h ▸ Nat.dvd_mul_right a b), Nat.dvd_one.mp (h ▸ Nat.dvd_mul_left b a)⟩
  · rintro ⟨rfl, rfl⟩
    rfl
def freeG (e : Nat) : List (Nat × Nat) → Nat
  | [] => 1
  | w :: L => w.1 ^ (w.2 / e) * freeG e L
theorem freeG_push (e : Nat) (w : Nat × Nat) : ∀ L, freeG e (L ++ [w]) = freeG e L * w.1 ^ (w.2 / e)
  | [] => by show w.1 ^ (w.2 / e) * 1 = 1 * _; rw [Nat.mul_one, Nat.one_mul]
  | x :: L => by
    show x.1 ^ (x.2 / e) * freeG e (L ++ [w]) = x.1 ^ (x.2 / e) * freeG e L * _
    rw [freeG_push e w L, Nat.mul_assoc]
theorem freeG_one {e : Nat} (e1 : 1 ≤ e) : ∀ {L : List (Nat × Nat)}, (∀ w ∈ L, 2 ≤ w.1) → (freeG e L = 1 ↔ ∀ w ∈ L, w.2 < e)
  | [], _ => ⟨fun _ w h => by simp at h, fun _ => rfl⟩
  | x :: L, h => by
    have ih := freeG_one e1 (L := L) fun w hw => h w (List.mem_cons_of_mem _ hw)
    show x.1 ^ (x.2 / e) * freeG e L = 1 ↔ _
    rw [mul_one_iff, ih]
    have x2 := h x (List.mem_cons_self ..)
    have key : x.1 ^ (x.2 / e) = 1 ↔ x.2 < e := by
      constructor
      · intro z
        refine Nat.lt_of_not_le fun w => ?_
        have : 1 ≤ x.2 / e := (Nat.one_le_div_iff (by omega)).mpr w
        have h2 : x.1 ^ 1 ≤ x.1 ^ (x.2 / e) := Nat.pow_le_pow_right (by omega) this
        rw [Nat.pow_one] at h2
        omega
      · intro z
        rw [Nat.div_eq_of_lt z, Nat.pow_zero]
    rw [key]
    constructor
    · rintro ⟨a, b⟩ w hw
      rcases List.mem_cons.mp hw with rfl | hw
      · exact a
      · exact b w hw
    · exact fun z => ⟨z x (List.mem_cons_self ..), fun w hw => z w (List.mem_cons_of_mem _ hw)⟩
theorem free_parted {n e l D r : Nat} {L : List (Nat × Nat)} (h : Parted n (e + 1) L l D) (n1 : 1 ≤ n) (e2 : 2 ≤ e) (hr : IsRoot l e r) : (if l = r ^ e then freeG e L * r else freeG e L) = 1 ↔ Free n e := by
  have hP := h.pt
  have l1 := hP.l1
  have D2 := h.d2
  have two : ∀ w ∈ L, 2 ≤ w.1 := fun w hw => (hP.pr w hw).1.1
  have big : ∀ q, Prime q → q ∣ l → D ≤ q := fun q hq d => Nat.le_of_not_lt fun z => hP.lo q hq z d
  have left : freeG e L = 1 ↔ ∀ p, Prime p → p < D → vl p n < e := by
    rw [freeG_one (by omega) two]
    constructor
    · intro z p hp pd
      rcases Nat.eq_zero_or_pos (vl p n) with w | w
      · omega
      · exact z _ (hP.all p hp pd ((vl_pos hp n1).mp w))
    · intro z w hw
      obtain ⟨a, b, c, d⟩ := hP.pr w hw
      rw [c]
      exact z _ a b
  have right : (∀ p, Prime p → D ≤ p → vl p n < e) ↔ (l = r ^ e → r = 1) := by
    constructor
    · intro z el
      refine Classical.byContradiction fun w => ?_
      have r1 : 1 ≤ r := Nat.pos_of_ne_zero fun y => by
        rw [y, Nat.zero_pow (by omega)] at el
        omega
      obtain ⟨p, hp, pd⟩ := prime_factor r (by omega)
      have pl : p ∣ l := by rw [el]; exact Nat.dvd_trans pd (by have z := Nat.pow_dvd_pow r (show 1 ≤ e by omega); rw [Nat.pow_one] at z; exact z)
      have Dp := big p hp pl
      have v := z p hp Dp
      rw [← hP.hi p hp Dp, el, vl_pow hp r1] at v
      have := (vl_pos hp r1).mpr pd
      have : e * 1 ≤ e * vl p r := Nat.mul_le_mul_left _ this
      omega
    · intro z p hp Dp
      refine Nat.lt_of_not_le fun w => ?_
      rw [← hP.hi p hp Dp] at w
      obtain ⟨c, ec⟩ := (pow_dvd_iff hp l1).mpr w
      have c1 : 1 ≤ c := Nat.pos_of_ne_zero fun y => by
        rw [y, Nat.mul_zero] at ec
        omega
      have pe : D ^ e ≤ p ^ e := Nat.pow_le_pow_left Dp e
      have lt := h.end'
      have cD : c < D := Nat.lt_of_not_le fun y => by
        have h1 : D ^ e * D ≤ p ^ e * c := Nat.mul_le_mul pe y
        rw [← Nat.pow_succ, ← ec] at h1
        have h1 : D ^ (e + 1) ≤ l := h1
        omega
      have one : c = 1 := by
        rcases Nat.eq_or_lt_of_le c1 with y | y
        · exact y.symm
        · obtain ⟨s, hs, sd⟩ := prime_factor c y
          have : D ≤ s := big s hs (by rw [ec]; exact Nat.dvd_trans sd (Nat.dvd_mul_left _ _))
          have := Nat.le_of_dvd c1 sd
          omega
      rw [one, Nat.mul_one] at ec
      have rp : r = p := by
        have h1 := hr.1
        have h2 := hr.2
        rw [ec] at h1 h2
        have a1 : r ≤ p := Nat.le_of_not_lt fun y => by
          have := Nat.pow_lt_pow_left y (show e ≠ 0 by omega)
          omega
        have a2 : p < r + 1 := Nat.lt_of_not_le fun y => by
          have := Nat.pow_le_pow_left y e
          omega
        omega
      have := z (by rw [rp]; exact ec)
      have := hp.1
      omega
  have all : Free n e ↔ (∀ p, Prime p → p < D → vl p n < e) ∧ ∀ p, Prime p → D ≤ p → vl p n < e :=
    ⟨fun z => ⟨fun p hp _ => z p hp, fun p hp _ => z p hp⟩, fun z p hp => (Nat.lt_or_ge p D).elim (z.1 p hp) (z.2 p hp)⟩
  rw [all, ← left, right]
  by_cases c : l = r ^ e
  · rw [if_pos c, mul_one_iff]
    exact ⟨fun z => ⟨z.1, fun _ => z.2⟩, fun z => ⟨z.1, z.2 c⟩⟩
  · rw [if_neg c]
    exact ⟨fun z => ⟨z, fun y => absurd y c⟩, fun z => z.1⟩
end Pm
namespace Pw
open PySem PySem.Spec PyProof.Rows L2 SX TL RZ Pt
theorem r_setLB {K : PySem.W.Frag} {w : World} {H : Hp} {Q : VK} {l : Addr} {ks : List Nat} (h : SqL K H l (nn ks)) (few : ks.length < 60000) (sm : ∀ k ∈ ks, k < 2 ^ 60) (q : ∀ a : Addr, H a = none → Q (.ref a) (upd H a (SetIO w a (ks.map fun k : Nat => (k : Int))))) : rSetLB K w [.ref l] H Q := by
  refine ⟨l, ks.map fun k : Nat => (k : Int), rfl, h, fun n hn => ?_, by rw [List.length_map]; exact few, q⟩
  obtain ⟨k, hk, rfl⟩ := List.mem_map.mp hn
  have := sm k hk
  exact ⟨Int.natCast_nonneg _, by exact_mod_cast this⟩
theorem r_sortedLB {w : World} {H : Hp} {Q : VK} {a : Addr} {ks : List Nat} (h : H a = some (SetIO w a (ks.map fun k : Nat => (k : Int)))) (few : ks.length < 60000)
    (q : ∀ (zs : List Nat) (p : Addr), Up zs → (∀ m, m ∈ zs ↔ m ∈ ks) → zs.length ≤ ks.length → H p = none → Q (.ref p) (upd H p (.lst (nn zs)))) : rSortedLB w [.ref a] H Q := by
  refine ⟨a, ks.map fun k : Nat => (k : Int), rfl, h, by rw [List.length_map]; exact few, fun ns p up mem le np => ?_⟩
  have pos : ∀ j ∈ ns, ∃ m : Nat, j = (m : Int) ∧ m ∈ ks := fun j hj => by
    obtain ⟨m, hm, e⟩ := List.mem_map.mp ((mem j).mp hj)
    exact ⟨m, e.symm, hm⟩
  have e1 : ns = (ns.map Int.toNat).map fun k : Nat => (k : Int) := by
    rw [List.map_map]
    conv => lhs; rw [← List.map_id ns]
    refine List.map_congr_left fun j hj => ?_
    obtain ⟨m, rfl, _⟩ := pos j hj
    rfl
  have z := q (ns.map Int.toNat) p ?_ (fun m => ?_) (by rw [List.length_map] at le ⊢; exact le) np
  · rw [nn, ← e1] at z
    exact z
  · refine List.pairwise_map.mpr (up.imp_of_mem fun {x y} hx hy lt => ?_)
    obtain ⟨i, rfl, _⟩ := pos x hx
    obtain ⟨j, rfl, _⟩ := pos y hy
    rw [Int.toNat_natCast, Int.toNat_natCast]
    exact Int.ofNat_lt.mp lt
  · constructor
    · intro h
      obtain ⟨j, hj, rfl⟩ := List.mem_map.mp h
      obtain ⟨k, rfl, hk⟩ := pos j hj
      rw [Int.toNat_natCast]
      exact hk
    · intro h
      have : (m : Int) ∈ ns := (mem _).mpr (List.mem_map.mpr ⟨m, h, rfl⟩)
      exact List.mem_map.mpr ⟨_, this, Int.toNat_natCast m⟩
def spPowersB : Sp := fun vs H Q _ => ∃ n : Nat, vs = [.int (n : Int)] ∧ n ≤ 100000000 ∧ ∀ (p : Addr) (H' : Hp) (zs : List Nat), Pm.Powers n zs → zs.length ≤ 12000 → H p = none → Same H H' → H' p = some (.lst (nn zs)) → Q (.ref p) H'
/-- the pairs of powers with this sum -/
structure PairsW (n : Nat) (zs : List (Nat × Nat)) : Prop where
  rise : zs.Pairwise LexLt
  mem : ∀ z, z ∈ zs ↔ 1 ≤ z.1 ∧ z.1 ≤ z.2 ∧ z.1 + z.2 = n ∧ Pm.IsPow z.1 ∧ Pm.IsPow z.2
def spPairsW : Sp := fun vs H Q _ => ∃ n : Nat, vs = [.int (n : Int)] ∧ n ≤ 100000000 ∧ ∀ (p : Addr) (H' : Hp) (qs : List Addr) (zs : List (Nat × Nat)), PairsW n zs → zs.length ≤ 12000 → H p = none → Same H H' → H' p = some (.tup (qs.map V.ref)) → PairsAt H' qs zs → Q (.ref p) H'
theorem gwp_iff {n b g : Nat} (hgw : GW n b g) : (1 ≤ n ∧ Pm.IsPow n) ↔ 1 < g := by
  have hg : gexp n = g := gexp_eq hgw
  by_cases z : 1 ≤ n
  · rw [gexp_pow z, hg]
    exact ⟨fun h => h.2, fun h => ⟨z, h⟩⟩
  · have n0 : n = 0 := by omega
    subst n0
    obtain ⟨_, rfl⟩ := hgw.uniq (.inl ⟨rfl, rfl, rfl⟩)
    exact ⟨fun h => absurd h.1 z, fun h => absurd h (by decide)⟩
noncomputable def fullB (n : Nat) : Bool := @decide (Pm.Full n) (Classical.propDecidable _)
noncomputable def freeB (n e : Nat) : Bool := @decide (Pm.Free n e) (Classical.propDecidable _)
theorem fullB_iff {n : Nat} : fullB n = true ↔ Pm.Full n := @decide_eq_true_iff _ (Classical.propDecidable _)
theorem freeB_iff {n e : Nat} : freeB n e = true ↔ Pm.Free n e := @decide_eq_true_iff _ (Classical.propDecidable _)
def spIsFull : Sp := fun vs H Q _ => ∃ n : Nat, vs = [.int (n : Int)] ∧ 1 ≤ n ∧ n < 2 ^ 60 ∧ ∀ H', Same H H' → Q (.bl (fullB n)) H'
def spGreatIn : Sp := fun vs H Q _ => ∃ n e : Nat, vs = [.int (n : Int), .int (e : Int)] ∧ 1 ≤ n ∧ n < 2 ^ 60 ∧ 2 ≤ e ∧ e ≤ 200 ∧ ∀ (g : Nat) (H' : Hp), (g = 1 ↔ Pm.Free n e) → Same H H' → Q (.int (g : Int)) H'
def spIsFree : Sp := fun vs H Q _ => ∃ n e : Nat, vs = [.int (n : Int), .int (e : Int)] ∧ 1 ≤ n ∧ n < 2 ^ 60 ∧ 2 ≤ e ∧ e ≤ 200 ∧ ∀ H', Same H H' → Q (.bl (freeB n e)) H'
end Pw

/-! signs of numbers (by sums over divisors), full numbers counted -/
namespace Pm
def muF : Nat → Nat → Int
  | 0, _ => 0
  | k + 1, n => (if n = 1 then 1 else 0) - SI (fun d => if 1 ≤ d ∧ d ∣ n then muF k d else 0) n
/-- the sign of a number -/
def mu (n : Nat) : Int := muF (n + 1) n
theorem muF_stab : ∀ n k : Nat, n < k → muF k n = muF (n + 1) n := fun n => by
  induction n using Nat.strongRecOn with
  | ind n ih =>
    intro k hk
    obtain ⟨k, rfl⟩ : ∃ j, k = j + 1 := ⟨k - 1, by omega⟩
    show (if n = 1 then 1 else 0) - SI (fun d => if 1 ≤ d ∧ d ∣ n then muF k d else 0) n = (if n = 1 then 1 else 0) - SI (fun d => if 1 ≤ d ∧ d ∣ n then muF n d else 0) n
    rw [SI_congr (g := fun d => if 1 ≤ d ∧ d ∣ n then muF n d else 0) fun d hd => by
      rw [ih d hd k (by omega), ih d hd n hd]]
theorem mu_eq (n : Nat) : mu n = (if n = 1 then 1 else 0) - SI (fun d => if 1 ≤ d ∧ d ∣ n then mu d else 0) n := by
  show (if n = 1 then 1 else 0) - SI (fun d => if 1 ≤ d ∧ d ∣ n then muF n d else 0) n = _
  rw [SI_congr (g := fun d => if 1 ≤ d ∧ d ∣ n then mu d else 0) fun d hd => by
    rw [muF_stab d n hd]
    rfl]
theorem SI_succ (f : Nat → Int) (n : Nat) : SI f (n + 1) = SI f n + f n := rfl
theorem mu_sum {n : Nat} (n1 : 1 ≤ n) : SI (fun d => if 1 ≤ d ∧ d ∣ n then mu d else 0) (n + 1) = if n = 1 then 1 else 0 := by
  rw [SI_succ, if_pos ⟨n1, Nat.dvd_refl n⟩, mu_eq n]
  omega
theorem SI_ext {f : Nat → Int} {n : Nat} : ∀ {m : Nat}, n ≤ m → (∀ i, n ≤ i → i < m → f i = 0) → SI f m = SI f n := fun {m} h => by
  obtain ⟨d, rfl⟩ := Nat.exists_eq_add_of_le h
  clear h
  induction d with
  | zero => exact fun _ => rfl
  | succ d ih =>
    intro hz
    rw [show n + (d + 1) = n + d + 1 by omega, SI_succ, hz (n + d) (by omega) (by omega), ih fun i a b => hz i a (by omega)]
    omega
theorem mu_sumN {n N : Nat} (n1 : 1 ≤ n) (h : n < N) : SI (fun d => if 1 ≤ d ∧ d ∣ n then mu d else 0) N = if n = 1 then 1 else 0 := by
  rw [← mu_sum n1]
  refine SI_ext h fun i a b => if_neg fun z => ?_
  have := Nat.le_of_dvd n1 z.2
  omega
theorem SI_mult (f : Nat → Int) {e : Nat} (he : 1 ≤ e) : ∀ m : Nat, SI (fun g => if 1 ≤ g ∧ e ∣ g then f g else 0) (m + 1) = SI (fun j => f (e * (j + 1))) (m / e)
  | 0 => by
    rw [Nat.zero_div]
    rfl
  | m + 1 => by
    show SI (fun g => if 1 ≤ g ∧ e ∣ g then f g else 0) (m + 1) + (if 1 ≤ m + 1 ∧ e ∣ m + 1 then f (m + 1) else 0) = _
    rw [SI_mult f he m]
    by_cases h : e ∣ m + 1
    · obtain ⟨q, hq⟩ := h
      have q1 : 1 ≤ q := by
        rcases Nat.eq_zero_or_pos q with z | z
        · rw [z] at hq; omega
        · exact z
      obtain ⟨p, rfl⟩ : ∃ p, q = p + 1 := ⟨q - 1, by omega⟩
      have h1 : (m + 1) / e = p + 1 := by rw [hq, Nat.mul_div_cancel_left _ (by omega)]
      have h2 : m / e = p := by
        have e1 : m = e * p + (e - 1) := by rw [Nat.mul_succ] at hq; omega
        rw [e1, Nat.mul_add_div (by omega), Nat.div_eq_of_lt (by omega)]
        rfl
      rw [if_pos ⟨by omega, ⟨p + 1, hq⟩⟩, h1, h2, hq]
      rfl
    · rw [if_neg fun x => h x.2]
      have : (m + 1) / e = m / e := by
        have h1 := Nat.div_add_mod m e
        have h2 := Nat.mod_lt m (show 0 < e by omega)
        have h3 : m % e + 1 ≠ e := fun z => h ⟨m / e + 1, by rw [Nat.mul_succ]; omega⟩
        have e1 : m + 1 = e * (m / e) + (m % e + 1) := by omega
        rw [e1, Nat.mul_add_div (by omega), Nat.div_eq_of_lt (show m % e + 1 < e by omega)]
        rfl
      rw [this]
      omega
theorem SI_head (f : Nat → Int) : ∀ n : Nat, SI f (n + 1) = f 0 + SI (fun j => f (j + 1)) n
  | 0 => by
    show SI f 0 + f 0 = f 0 + 0
    show 0 + f 0 = f 0 + 0
    omega
  | n + 1 => by
    rw [SI_succ, SI_head f n, SI_succ]
    omega
theorem cop {p d : Nat} (hp : Prime p) (h : ¬ p ∣ d) : Nat.Coprime p d := by
  rcases hp.2 _ (Nat.gcd_dvd_left p d) with e | e
  · exact e
  · exact absurd (e ▸ Nat.gcd_dvd_right p d) h
theorem mu_prime_mul {p : Nat} (hp : Prime p) : ∀ m : Nat, 1 ≤ m → ¬ p ∣ m → mu (p * m) = - mu m := fun m => by
  induction m using Nat.strongRecOn with
  | ind m ih =>
    intro m1 nd
    have p2 := hp.1
    have pm : 2 * m ≤ p * m := Nat.mul_le_mul_right m p2
    have h0 := mu_sum (n := p * m) (by omega)
    rw [if_neg (by omega)] at h0
    have split : ∀ d, d < p * m + 1 → (if 1 ≤ d ∧ d ∣ p * m then mu d else 0) = (if 1 ≤ d ∧ d ∣ m then mu d else 0) + (if 1 ≤ d ∧ p ∣ d then (if d / p ∣ m then mu d else 0) else 0) := fun d _ => by
      by_cases d1 : 1 ≤ d
      · by_cases pd : p ∣ d
        · obtain ⟨e, rfl⟩ := pd
          have ne : ¬ (p * e ∣ m) := fun z => nd (Nat.dvd_trans (Nat.dvd_mul_right p e) z)
          rw [if_neg (show ¬ (1 ≤ p * e ∧ p * e ∣ m) from fun z => ne z.2), if_pos (show 1 ≤ p * e ∧ p ∣ p * e from ⟨d1, Nat.dvd_mul_right p e⟩), Nat.mul_div_cancel_left _ (show 0 < p by omega)]
          by_cases em : e ∣ m
          · rw [if_pos (show 1 ≤ p * e ∧ p * e ∣ p * m from ⟨d1, Nat.mul_dvd_mul_left p em⟩), if_pos em]
            omega
          · rw [if_neg (show ¬ (1 ≤ p * e ∧ p * e ∣ p * m) from fun z => em (Nat.dvd_of_mul_dvd_mul_left (by omega) z.2)), if_neg em]
            rfl
        · rw [if_neg (show ¬ (1 ≤ d ∧ p ∣ d) from fun z => pd z.2)]
          by_cases dm : d ∣ m
          · rw [if_pos (show 1 ≤ d ∧ d ∣ p * m from ⟨d1, Nat.dvd_trans dm (Nat.dvd_mul_left m p)⟩), if_pos (show 1 ≤ d ∧ d ∣ m from ⟨d1, dm⟩)]
            omega
          · rw [if_neg (show ¬ (1 ≤ d ∧ d ∣ p * m) from fun z => dm ((cop hp pd).symm.dvd_of_dvd_mul_left z.2)), if_neg (show ¬ (1 ≤ d ∧ d ∣ m) from fun z => dm z.2)]
            rfl
      · rw [if_neg (show ¬ (1 ≤ d ∧ d ∣ p * m) from fun z => d1 z.1), if_neg (show ¬ (1 ≤ d ∧ d ∣ m) from fun z => d1 z.1), if_neg (show ¬ (1 ≤ d ∧ p ∣ d) from fun z => d1 z.1)]
        rfl
    rw [SI_congr split, SI_add, mu_sumN m1 (by omega), SI_mult (fun d => if d / p ∣ m then mu d else 0) (by omega), Nat.mul_div_cancel_left _ (show 0 < p by omega)] at h0
    obtain ⟨k, rfl⟩ : ∃ k, m = k + 1 := ⟨m - 1, by omega⟩
    rw [SI_succ] at h0
    have e1 : (if p * (k + 1) / p ∣ k + 1 then mu (p * (k + 1)) else 0) = mu (p * (k + 1)) := by
      rw [Nat.mul_div_cancel_left _ (show 0 < p by omega), if_pos (Nat.dvd_refl _)]
    have e2 : SI (fun j => if p * (j + 1) / p ∣ k + 1 then mu (p * (j + 1)) else 0) k = - SI (fun j => if j + 1 ∣ k + 1 then mu (j + 1) else 0) k := by
      rw [← SI_neg]
      refine SI_congr fun j hj => ?_
      rw [Nat.mul_div_cancel_left _ (show 0 < p by omega)]
      by_cases z : j + 1 ∣ k + 1
      · rw [if_pos z, if_pos z, ih (j + 1) (by omega) (by omega) fun w => nd (Nat.dvd_trans w z)]
      · rw [if_neg z, if_neg z]
        rfl
    have e3 := mu_eq (k + 1)
    rw [SI_head] at e3
    have e4 : (if 1 ≤ 0 ∧ 0 ∣ k + 1 then mu 0 else 0) = 0 := if_neg (by omega)
    have e5 : SI (fun j => if 1 ≤ j + 1 ∧ j + 1 ∣ k + 1 then mu (j + 1) else 0) k = SI (fun j => if j + 1 ∣ k + 1 then mu (j + 1) else 0) k := SI_congr fun j _ => by
      by_cases z : j + 1 ∣ k + 1
      · rw [if_pos z, if_pos ⟨by omega, z⟩]
      · rw [if_neg z, if_neg fun w => z w.2]
    rw [e4, e5] at e3
    rw [e1, e2] at h0
    omega
theorem mu_sq {p : Nat} (hp : Prime p) : ∀ n : Nat, 1 ≤ n → p ∣ n → mu (p * n) = 0 := fun n => by
  induction n using Nat.strongRecOn with
  | ind n ih =>
    intro n1 pn
    have p2 := hp.1
    have n2 : 2 ≤ n := Nat.le_trans p2 (Nat.le_of_dvd n1 pn)
    have pm : 2 * n ≤ p * n := Nat.mul_le_mul_right n p2
    have h0 := mu_sum (n := p * n) (by omega)
    rw [if_neg (by omega)] at h0
    have split : ∀ d, d < p * n + 1 → (if 1 ≤ d ∧ d ∣ p * n then mu d else 0) = (if 1 ≤ d ∧ d ∣ n then mu d else 0) + (if d = p * n then mu (p * n) else 0) := fun d hd => by
      by_cases d1 : 1 ≤ d
      · by_cases dn : d ∣ n
        · have := Nat.le_of_dvd n1 dn
          rw [if_pos (show 1 ≤ d ∧ d ∣ p * n from ⟨d1, Nat.dvd_trans dn (Nat.dvd_mul_left n p)⟩), if_pos (show 1 ≤ d ∧ d ∣ n from ⟨d1, dn⟩), if_neg (show ¬ d = p * n by omega)]
          omega
        · rw [if_neg (show ¬ (1 ≤ d ∧ d ∣ n) from fun z => dn z.2)]
          by_cases de : d = p * n
          · subst de
            rw [if_pos (show 1 ≤ p * n ∧ p * n ∣ p * n from ⟨d1, Nat.dvd_refl _⟩), if_pos rfl]
            omega
          · rw [if_neg de]
            by_cases dp : d ∣ p * n
            · rw [if_pos (show 1 ≤ d ∧ d ∣ p * n from ⟨d1, dp⟩)]
              have pd : p ∣ d := Classical.byContradiction fun z => dn ((cop hp z).symm.dvd_of_dvd_mul_left dp)
              obtain ⟨e, rfl⟩ := pd
              have en : e ∣ n := Nat.dvd_of_mul_dvd_mul_left (by omega) dp
              have e1 : 1 ≤ e := Nat.pos_of_ne_zero fun z => by rw [z, Nat.mul_zero] at d1; omega
              have pe : p ∣ e := Classical.byContradiction fun z => dn ((cop hp z).mul_dvd_of_dvd_of_dvd pn en)
              have el := Nat.le_of_dvd n1 en
              have elt : e < n := Nat.lt_of_le_of_ne el fun z => de (by rw [z])
              rw [ih e elt e1 pe]
              rfl
            · rw [if_neg (show ¬ (1 ≤ d ∧ d ∣ p * n) from fun z => dp z.2)]
              rfl
      · rw [if_neg (show ¬ (1 ≤ d ∧ d ∣ p * n) from fun z => d1 z.1), if_neg (show ¬ (1 ≤ d ∧ d ∣ n) from fun z => d1 z.1), if_neg (show ¬ d = p * n by omega)]
        rfl
    rw [SI_congr split, SI_add, mu_sumN n1 (by omega), if_neg (by omega)] at h0
    rw [SI_succ, if_pos rfl, SI_congr (g := fun _ => 0) fun i hi => if_neg (by omega), SI_zero] at h0
    omega
/-- no square divides it -/
def Sq (n : Nat) : Prop := ∀ c, 2 ≤ c → ¬ c * c ∣ n
theorem sq_1 : Sq 1 := fun c c2 h => by
  have := Nat.le_of_dvd (by decide) h
  have := Nat.mul_le_mul c2 c2
  omega
theorem mu_1 : mu 1 = 1 := by
  rw [mu_eq]
  show 1 - (0 + if 1 ≤ 0 ∧ 0 ∣ 1 then mu 0 else 0) = 1
  rw [if_neg (by omega)]
  rfl
theorem mu_val : ∀ n : Nat, 1 ≤ n → ((Sq n ∧ (mu n = 1 ∨ mu n = -1)) ∨ (¬ Sq n ∧ mu n = 0)) := fun n => by
  induction n using Nat.strongRecOn with
  | ind n ih =>
    intro n1
    rcases Nat.eq_or_lt_of_le n1 with e | n2
    · rw [← e]
      exact .inl ⟨sq_1, .inl mu_1⟩
    · obtain ⟨p, hp, m, em⟩ := prime_factor n n2
      have p2 := hp.1
      have m1 : 1 ≤ m := Nat.pos_of_ne_zero fun z => by rw [z, Nat.mul_zero] at em; omega
      have mn : m < n := by
        have : 2 * m ≤ p * m := Nat.mul_le_mul_right m p2
        omega
      by_cases pm : p ∣ m
      · right
        refine ⟨fun z => z p p2 ?_, by rw [em]; exact mu_sq hp m m1 pm⟩
        rw [em]
        exact Nat.mul_dvd_mul_left p pm
      · have hm := mu_prime_mul hp m m1 pm
        rw [← em] at hm
        rcases ih m mn m1 with ⟨hs, hv⟩ | ⟨hs, hv⟩
        · refine .inl ⟨fun c c2 hc => ?_, by omega⟩
          by_cases pc : p ∣ c
          · have h1 : p * p ∣ n := Nat.dvd_trans (Nat.mul_dvd_mul pc pc) hc
            rw [em] at h1
            exact pm (Nat.dvd_of_mul_dvd_mul_left (by omega) h1)
          · have h1 : Nat.Coprime (c * c) p := Nat.Coprime.mul_left (cop hp pc).symm (cop hp pc).symm
            rw [em] at hc
            exact hs c c2 (h1.dvd_of_dvd_mul_left hc)
        · refine .inr ⟨fun z => hs fun c c2 hc => z c c2 (Nat.dvd_trans hc ⟨p, by rw [em, Nat.mul_comm]⟩), by omega⟩
theorem mu_ne {n : Nat} (n1 : 1 ≤ n) : mu n ≠ 0 ↔ Sq n := by
  rcases mu_val n n1 with ⟨a, b⟩ | ⟨a, b⟩
  · exact ⟨fun _ => a, fun _ => by omega⟩
  · exact ⟨fun h => absurd b h, fun h => absurd h a⟩
theorem mu_abs {n : Nat} (n1 : 1 ≤ n) : -1 ≤ mu n ∧ mu n ≤ 1 := by
  rcases mu_val n n1 with ⟨a, b⟩ | ⟨a, b⟩ <;> omega
/-! ### full numbers -/
theorem sq_vl {b : Nat} (b1 : 1 ≤ b) (h : Sq b) {p : Nat} (hp : Prime p) : vl p b ≤ 1 := Nat.le_of_not_lt fun z => by
  have := (pow_dvd_iff hp b1 (k := 2)).mpr z
  rw [Nat.pow_two] at this
  exact h p hp.1 this
theorem vl_rep {a b p : Nat} (hp : Prime p) (a1 : 1 ≤ a) (b1 : 1 ≤ b) : vl p (a * a * (b * b * b)) = 2 * vl p a + 3 * vl p b := by
  rw [vl_mul hp (Nat.mul_pos a1 a1) (Nat.mul_pos (Nat.mul_pos b1 b1) b1), vl_mul hp a1 a1, vl_mul hp (Nat.mul_pos b1 b1) b1, vl_mul hp b1 b1]
  omega
theorem full_of {a b : Nat} (a1 : 1 ≤ a) (b1 : 1 ≤ b) : Full (a * a * (b * b * b)) := fun p hp d => by
  have x1 : 1 ≤ a * a * (b * b * b) := Nat.mul_pos (Nat.mul_pos a1 a1) (Nat.mul_pos (Nat.mul_pos b1 b1) b1)
  have h := (vl_pos hp x1).mpr d
  rw [vl_rep hp a1 b1] at h ⊢
  omega
theorem full_rep : ∀ x : Nat, 1 ≤ x → Full x → ∃ a b, 1 ≤ a ∧ 1 ≤ b ∧ Sq b ∧ x = a * a * (b * b * b) := fun x => by
  induction x using Nat.strongRecOn with
  | ind x ih =>
    intro x1 hf
    rcases Nat.eq_or_lt_of_le x1 with e | x2
    · exact ⟨1, 1, Nat.le_refl 1, Nat.le_refl 1, sq_1, by rw [← e]⟩
    · obtain ⟨p, hp, d⟩ := prime_factor x x2
      have p2 := hp.1
      have k2 := hf p hp d
      obtain ⟨m, em, nd, m1⟩ := vl_split hp x1
      obtain ⟨k, ek⟩ : ∃ k, k = vl p x := ⟨_, rfl⟩
      rw [← ek] at em k2
      have pk : 2 ≤ p ^ k := by
        have h1 : p ^ 1 ≤ p ^ k := Nat.pow_le_pow_right (by omega) (by omega)
        rw [Nat.pow_one] at h1
        omega
      have mx : m < x := by
        have : 2 * m ≤ p ^ k * m := Nat.mul_le_mul_right m pk
        omega
      have fm : Full m := fun q hq qm => by
        have h1 := hf q hq (by rw [em]; exact Nat.dvd_trans qm (Nat.dvd_mul_left _ _))
        rw [em, vl_mul hq (by omega) m1, vl_pow hq (by omega)] at h1
        by_cases e : q = p
        · subst e
          exact absurd qm nd
        · rw [vl_prime_ne hq hp e] at h1
          omega
      obtain ⟨a, b, a1, b1, sb, eab⟩ := ih m mx m1 fm
      have npb : ¬ p ∣ b := fun z => nd (by rw [eab]; exact Nat.dvd_trans z (Nat.dvd_trans (Nat.dvd_mul_left b (b * b)) (Nat.dvd_mul_left _ _)))
      rcases Nat.mod_two_eq_zero_or_one k with e | e
      · obtain ⟨j, ej⟩ : ∃ j, k = j + j := ⟨k / 2, by omega⟩
        refine ⟨p ^ j * a, b, Nat.mul_pos (Nat.pow_pos (by omega)) a1, b1, sb, ?_⟩
        rw [em, eab, ej, Nat.pow_add]
        simp only [Nat.mul_assoc, Nat.mul_left_comm, Nat.mul_comm]
      · obtain ⟨j, ej⟩ : ∃ j, k = j + j + 3 := ⟨(k - 3) / 2, by omega⟩
        refine ⟨p ^ j * a, p * b, Nat.mul_pos (Nat.pow_pos (by omega)) a1, Nat.mul_pos (by omega) b1, fun c c2 hc => ?_, ?_⟩
        · by_cases pc : p ∣ c
          · have h1 : p * p ∣ p * b := Nat.dvd_trans (Nat.mul_dvd_mul pc pc) hc
            exact npb (Nat.dvd_of_mul_dvd_mul_left (by omega) h1)
          · have h1 : Nat.Coprime (c * c) p := Nat.Coprime.mul_left (cop hp pc).symm (cop hp pc).symm
            exact sb c c2 (h1.dvd_of_dvd_mul_left hc)
        · rw [em, eab, ej, Nat.pow_add, Nat.pow_add, show p ^ 3 = p * p * p by rw [Nat.pow_succ, Nat.pow_two]]
          simp only [Nat.mul_assoc, Nat.mul_left_comm, Nat.mul_comm]
theorem rep_uniq {a b a' b' : Nat} (a1 : 1 ≤ a) (b1 : 1 ≤ b) (a1' : 1 ≤ a') (b1' : 1 ≤ b') (s : Sq b) (s' : Sq b') (e : a * a * (b * b * b) = a' * a' * (b' * b' * b')) : b = b' ∧ a = a' := by
  have hv : ∀ p, Prime p → vl p b = vl p b' ∧ vl p a = vl p a' := fun p hp => by
    have h1 := vl_rep hp a1 b1
    have h2 := vl_rep hp a1' b1'
    rw [e, h2] at h1
    have h3 := sq_vl b1 s hp
    have h4 := sq_vl b1' s' hp
    omega
  exact ⟨eq_of_vl b b' b1 b1' fun p hp => (hv p hp).1, eq_of_vl a a' a1 a1' fun p hp => (hv p hp).2⟩
/-- how many full numbers to n -/
noncomputable def cntF (n : Nat) : Nat := S (fun x => I (1 ≤ x ∧ Full x)) (n + 1)
theorem cntF_succ (n : Nat) : cntF (n + 1) = cntF n + I (Full (n + 1)) := by
  show S _ (n + 1) + I (1 ≤ n + 1 ∧ Full (n + 1)) = _
  rw [I_congr (show (1 ≤ n + 1 ∧ Full (n + 1)) ↔ Full (n + 1) from ⟨fun h => h.2, fun h => ⟨by omega, h⟩⟩)]
  rfl
theorem cntF_0 : cntF 0 = 0 := by
  show 0 + I (1 ≤ 0 ∧ Full 0) = 0
  rw [I_f fun h => absurd h.1 (by decide)]
theorem S_to {r : Nat} : ∀ m : Nat, S (fun b => I (1 ≤ b ∧ b ≤ r)) m = min (m - 1) r
  | 0 => by show 0 = _; omega
  | m + 1 => by
    show S (fun b => I (1 ≤ b ∧ b ≤ r)) m + I (1 ≤ m ∧ m ≤ r) = _
    rw [S_to m, I_ite]
    by_cases h : 1 ≤ m ∧ m ≤ r
    · rw [if_pos h]; omega
    · rw [if_neg h]; omega
/-- squares times third powers of numbers that no square divides -/
theorem full_count {n r : Nat} (hr : IsRoot n 3 r) (R : Nat → Nat) (hR : ∀ b, 1 ≤ b → b ≤ r → R b * R b ≤ n / (b * b * b) ∧ n / (b * b * b) < (R b + 1) * (R b + 1)) : S (fun b => if 1 ≤ b ∧ mu b ≠ 0 then R b else 0) (r + 1) = cntF n := by
  have row : ∀ b, b < r + 1 → (if 1 ≤ b ∧ mu b ≠ 0 then R b else 0) = S (fun a => S (fun x => I (x = a * a * (b * b * b) ∧ x ≤ n ∧ 1 ≤ a ∧ 1 ≤ b ∧ Sq b)) (n + 1)) (n + 1) := fun b hb => by
    by_cases h : 1 ≤ b ∧ mu b ≠ 0
    · have sb := (mu_ne h.1).mp h.2
      have b3 : 1 ≤ b * b * b := Nat.mul_pos (Nat.mul_pos h.1 h.1) h.1
      obtain ⟨h1, h2⟩ := hR b h.1 (by omega)
      have Rn : R b ≤ n := by
        have h3 : R b ≤ R b * R b := by
          rcases Nat.eq_zero_or_pos (R b) with z | z
          · rw [z]; exact Nat.zero_le _
          · exact Nat.le_mul_of_pos_left _ z
        exact Nat.le_trans h3 (Nat.le_trans h1 (Nat.div_le_self _ _))
      rw [if_pos h, S_congr (g := fun a => I (1 ≤ a ∧ a ≤ R b)) fun a _ => ?_, S_to]
      · omega
      · rw [S_mark (P := a * a * (b * b * b) ≤ n ∧ 1 ≤ a) (b0 := a * a * (b * b * b)) (M := n + 1) (A := fun x => x = a * a * (b * b * b) ∧ x ≤ n ∧ 1 ≤ a ∧ 1 ≤ b ∧ Sq b) (fun x => ⟨fun ⟨e, l, a1, _⟩ => ⟨e, by rw [← e]; exact l, a1⟩, fun ⟨e, l, a1⟩ => ⟨e, by rw [e]; exact l, a1, h.1, sb⟩⟩) (fun z => by omega)]
        refine I_congr ⟨fun ⟨l, a1⟩ => ⟨a1, Nat.le_of_not_lt fun z => ?_⟩, fun ⟨a1, l⟩ => ⟨?_, a1⟩⟩
        · have h3 : a * a ≤ n / (b * b * b) := (Nat.le_div_iff_mul_le b3).mpr l
          have h4 := Nat.mul_le_mul (show R b + 1 ≤ a from z) (show R b + 1 ≤ a from z)
          omega
        · have h3 := Nat.mul_le_mul l l
          exact (Nat.le_div_iff_mul_le b3).mp (Nat.le_trans h3 h1)
    · rw [if_neg h, S_congr (g := fun _ => 0) fun a _ => ?_, S_zero]
      rw [S_congr (g := fun _ => 0) fun x _ => I_f fun z => h ⟨z.2.2.2.1, (mu_ne z.2.2.2.1).mpr z.2.2.2.2⟩, S_zero]
  rw [S_congr row, S_congr (g := fun b => S (fun x => S (fun a => I (x = a * a * (b * b * b) ∧ x ≤ n ∧ 1 ≤ a ∧ 1 ≤ b ∧ Sq b)) (n + 1)) (n + 1)) fun b _ => S_swap _ _ _, S_swap]
  refine S_congr fun x hx => ?_
  by_cases h : 1 ≤ x ∧ Full x
  · obtain ⟨a, b, a1, b1, sb, e⟩ := full_rep x h.1 h.2
    have b3 : 1 ≤ b * b * b := Nat.mul_pos (Nat.mul_pos b1 b1) b1
    have aa : 1 ≤ a * a := Nat.mul_pos a1 a1
    have l1 : b * b * b ≤ x := by
      rw [e]
      exact Nat.le_mul_of_pos_left _ aa
    have l2 : a ≤ x := by
      rw [e]
      exact Nat.le_trans (Nat.le_mul_of_pos_left _ a1) (Nat.le_mul_of_pos_right _ b3)
    have br : b < r + 1 := by
      refine Nat.lt_of_not_le fun z => ?_
      have h1 := Nat.pow_le_pow_left z 3
      have h2 := hr.2
      have e3 : b ^ 3 = b * b * b := by rw [Nat.pow_succ, Nat.pow_two]
      omega
    rw [I_t h, S2_one (k0 := b) (c0 := a) br (by omega) fun k c => ?_]
    constructor
    · rintro ⟨e', _, c1, k1, sk⟩
      obtain ⟨u, v⟩ := rep_uniq c1 k1 a1 b1 sk sb (e'.symm.trans e)
      exact ⟨u, v⟩
    · rintro ⟨rfl, rfl⟩
      exact ⟨e, by omega, a1, b1, sb⟩
  · rw [I_f h, S2_none fun k c z => h ⟨?_, ?_⟩]
    · rw [z.1]
      exact Nat.mul_pos (Nat.mul_pos z.2.2.1 z.2.2.1) (Nat.mul_pos (Nat.mul_pos z.2.2.2.1 z.2.2.2.1) z.2.2.2.1)
    · rw [z.1]
      exact full_of z.2.2.1 z.2.2.2.1
/-- the next full number -/
structure NextF (n v : Nat) : Prop where
  gt : n < v
  full : Full v
  min : ∀ x, n < x → Full x → v ≤ x
theorem NextF.uniq {n v w : Nat} (h : NextF n v) (h' : NextF n w) : v = w := Nat.le_antisymm (h.min _ h'.gt h'.full) (h'.min _ h.gt h.full)
/-- the least square times the factor that is above n -/
def NextS (n f v : Nat) : Prop := ∃ s, s * s ≤ n / f ∧ n / f < (s + 1) * (s + 1) ∧ v = (s + 1) * (s + 1) * f
theorem next_full {n r v : Nat} (hr : IsRoot n 3 r) (V : Nat → Nat) (hV : ∀ b, 1 ≤ b → b ≤ r + 1 → NextS n (b * b * b) (V b)) (hv : ∃ b, 1 ≤ b ∧ b ≤ r + 1 ∧ v = V b) (hm : ∀ b, 1 ≤ b → b ≤ r + 1 → v ≤ V b) : NextF n v := by
  have up : ∀ b, 1 ≤ b → b ≤ r + 1 → n < V b ∧ Full (V b) := fun b b1 br => by
    obtain ⟨s, h1, h2, e⟩ := hV b b1 br
    have b3 : 1 ≤ b * b * b := Nat.mul_pos (Nat.mul_pos b1 b1) b1
    refine ⟨?_, by rw [e]; exact full_of (by omega) b1⟩
    rw [e]
    exact (Nat.div_lt_iff_lt_mul b3).mp h2
  obtain ⟨b0, h1, h2, e0⟩ := hv
  refine ⟨by rw [e0]; exact (up b0 h1 h2).1, by rw [e0]; exact (up b0 h1 h2).2, fun x hx hf => ?_⟩
  obtain ⟨a, b, a1, b1, _, e⟩ := full_rep x (by omega) hf
  have b3 : 1 ≤ b * b * b := Nat.mul_pos (Nat.mul_pos b1 b1) b1
  rcases Nat.lt_or_ge (r + 1) b with z | z
  · obtain ⟨s, h3, h4, e'⟩ := hV (r + 1) (by omega) (Nat.le_refl _)
    have e3 : (r + 1) ^ 3 = (r + 1) * (r + 1) * (r + 1) := by rw [Nat.pow_succ, Nat.pow_two]
    have h5 := hr.2
    rw [e3] at h5
    rw [Nat.div_eq_of_lt h5] at h3
    have s0 : s = 0 := Nat.eq_zero_of_not_pos fun w => by
      have := Nat.mul_pos w w
      omega
    rw [s0] at e'
    have h6 : (r + 1) * (r + 1) * (r + 1) ≤ b * b * b := Nat.mul_le_mul (Nat.mul_le_mul (by omega) (by omega)) (by omega)
    have h7 : b * b * b ≤ x := by
      rw [e]
      exact Nat.le_mul_of_pos_left _ (Nat.mul_pos a1 a1)
    have := hm (r + 1) (by omega) (Nat.le_refl _)
    omega
  · obtain ⟨s, h3, h4, e'⟩ := hV b b1 z
    have h5 := hm b b1 z
    have h6 : n / (b * b * b) < a * a := by
      rw [e] at hx
      exact (Nat.div_lt_iff_lt_mul b3).mpr hx
    have sa : s + 1 ≤ a := Nat.lt_of_not_le fun w => by
      have := Nat.mul_le_mul w w
      omega
    have h7 : (s + 1) * (s + 1) * (b * b * b) ≤ a * a * (b * b * b) := Nat.mul_le_mul_right _ (Nat.mul_le_mul sa sa)
    omega
end Pm
namespace Pw
open PySem PySem.Spec PyProof.Rows L2 SX TL RZ Pt
/-! xs[i] -= y for a list, reading by a number from 0 on -/
def rGetN (K : PySem.W.Frag) : V → V → Hp → VK → Prop := fun o i H Q => ∃ (p : Addr) (xs : List V) (j : Nat) (v : V), o = .ref p ∧ i = .int (j : Int) ∧ SqL K H p xs ∧ xs[j]? = some v ∧ j < 1000000 ∧ Q v H
theorem get_listN {X : Cx} : PGet X (rGetN X.K) := by
  intro pins s σ H o i ov iv Q I ro ri h
  obtain ⟨p, xs, j, v, rfl, rfl, hq, he, hj, q⟩ := h
  cases ro
  obtain ⟨t, rfl⟩ := ri
  obtain ⟨its, r, pl, hz⟩ := I.list hq
  obtain ⟨w, ew, rw'⟩ := r.get he
  exact wpAny_getItem_list (Q := EP X pins σ Q) pl.isList (by omega) (by omega) (by rw [Int.toNat_natCast]; simpa using ew) ⟨v, H, I, rw', q⟩
theorem r_augSL {to ti te : TE} {tget : V → V → Hp → VK → Prop} {tip : TIp} {tset : TSet} {D : Ends} {σ : L2.St} {H : Hp} (h : to σ H fun o H1 => ti σ H1 fun i H2 => tget o i H2 fun x H3 => te σ H3 fun y H4 => tip x y H4 fun z H5 => tset o i z H5 fun H6 => D.nx σ H6) : tAugS to ti te tget tip tset D σ H := h
/-- a list of one taken so often, also less than once -/
theorem r_repZ {H : Hp} {Q : VK} {l : Addr} {k : Int} {x : V} (h : H l = some (.lst [x])) (h0 : -1 ≤ k) (hn : k ≤ 1000000) (q : NewC Q (List.replicate k.toNat x) H) : rRep (.ref l) (.int k) H Q := by
  rcases Int.lt_or_le k 0 with z | z
  · have e : k = -1 := by omega
    subst e
    exact ⟨l, -1, [x], rfl, rfl, h, by decide, by decide, by simp, fun p np => q p np⟩
  · obtain ⟨n, rfl⟩ := Int.eq_ofNat_of_zero_le z
    rw [Int.toNat_natCast] at q
    exact r_rep1 h (by omega) q
end Pw

/-! the greatest base whose power divides; free numbers counted -/
namespace Pm
/-- the greatest base whose power divides -/
structure Great (n e g : Nat) : Prop where
  pos : 1 ≤ g
  vl : ∀ p, Prime p → vl p g = vl p n / e
theorem Great.uniq {n e g h : Nat} (a : Great n e g) (b : Great n e h) : g = h := eq_of_vl g h a.pos b.pos fun p hp => by rw [a.vl p hp, b.vl p hp]
theorem pow_dvd_all {n e b : Nat} (n1 : 1 ≤ n) (b1 : 1 ≤ b) : b ^ e ∣ n ↔ ∀ p, Prime p → e * Pm.vl p b ≤ Pm.vl p n := by
  constructor
  · intro h p hp
    rw [← vl_pow hp b1]
    exact vl_le hp (Nat.pow_pos b1) n1 h
  · intro h
    exact dvd_of_vl (Nat.pow_pos b1) n1 fun p hp => by rw [vl_pow hp b1]; exact h p hp
theorem Great.dvd {n e g : Nat} (h : Great n e g) (n1 : 1 ≤ n) (e1 : 1 ≤ e) {b : Nat} (b1 : 1 ≤ b) : b ^ e ∣ n ↔ b ∣ g := by
  rw [pow_dvd_all n1 b1]
  constructor
  · intro z
    refine dvd_of_vl b1 h.pos fun p hp => ?_
    rw [h.vl p hp, Nat.le_div_iff_mul_le (by omega), Nat.mul_comm]
    exact z p hp
  · intro z p hp
    have := vl_le hp b1 h.pos z
    rw [h.vl p hp, Nat.le_div_iff_mul_le (by omega), Nat.mul_comm] at this
    exact this
theorem Great.self {n e g : Nat} (h : Great n e g) (n1 : 1 ≤ n) (e1 : 1 ≤ e) : g ^ e ∣ n := (h.dvd n1 e1 h.pos).mpr (Nat.dvd_refl g)
theorem Great.one {n e g : Nat} (h : Great n e g) (e1 : 1 ≤ e) : g = 1 ↔ Free n e := by
  constructor
  · rintro rfl p hp
    have := h.vl p hp
    rw [vl_one] at this
    have h2 := Nat.div_eq_zero_iff (a := Pm.vl p n) (b := e)
    omega
  · intro z
    exact eq_of_vl g 1 h.pos (Nat.le_refl 1) fun p hp => by rw [h.vl p hp, vl_one, Nat.div_eq_of_lt (z p hp)]
theorem pow_ge {b e : Nat} (e1 : 1 ≤ e) (b1 : 1 ≤ b) : b ≤ b ^ e := by
  have h : b ^ 1 ≤ b ^ e := Nat.pow_le_pow_right b1 e1
  rw [Nat.pow_one] at h
  exact h
theorem great_ex (e : Nat) (e1 : 1 ≤ e) : ∀ n : Nat, 1 ≤ n → ∃ g, Great n e g := fun n => by
  induction n using Nat.strongRecOn with
  | ind n ih =>
    intro n1
    rcases Nat.eq_or_lt_of_le n1 with z | n2
    · rw [← z]
      exact ⟨1, Nat.le_refl 1, fun p hp => by rw [vl_one, Nat.zero_div]⟩
    · obtain ⟨p, hp, d⟩ := prime_factor n n2
      obtain ⟨m, em, nd, m1⟩ := vl_split hp n1
      obtain ⟨k, ek⟩ : ∃ k, k = Pm.vl p n := ⟨_, rfl⟩
      have k1 : 1 ≤ k := by rw [ek]; exact (vl_pos hp n1).mpr d
      rw [← ek] at em
      have p2 := hp.1
      have pk : p ≤ p ^ k := pow_ge k1 (by omega)
      have mn : m < n := by
        have : 2 * m ≤ p ^ k * m := Nat.mul_le_mul_right m (by omega)
        omega
      obtain ⟨g, hg⟩ := ih m mn m1
      refine ⟨p ^ (k / e) * g, Nat.mul_pos (Nat.pow_pos (by omega)) hg.pos, fun q hq => ?_⟩
      rw [vl_mul hq (Nat.pow_pos (by omega)) hg.pos, vl_pow hq (by omega), hg.vl q hq, em, vl_mul hq (Nat.pow_pos (by omega)) m1, vl_pow hq (by omega)]
      by_cases c : q = p
      · subst c
        rw [vl_self hp, vl_no nd, Nat.zero_div, Nat.mul_one, Nat.mul_one, Nat.add_zero, Nat.add_zero]
      · rw [vl_prime_ne hq hp c, Nat.mul_zero, Nat.mul_zero, Nat.zero_add, Nat.zero_add]
/-- found by trying: the greatest of those whose power divides -/
theorem great_of_max {n e g : Nat} (n1 : 1 ≤ n) (e1 : 1 ≤ e) (g1 : 1 ≤ g) (hd : g ^ e ∣ n) (hm : ∀ b, 1 ≤ b → b ^ e ∣ n → b ≤ g) : Great n e g := by
  obtain ⟨h, hh⟩ := great_ex e e1 n n1
  have h1 : g ∣ h := (hh.dvd n1 e1 g1).mp hd
  have h2 : h ≤ g := hm h hh.pos (hh.self n1 e1)
  have h3 : g = h := Nat.le_antisymm (Nat.le_of_dvd hh.pos h1) h2
  rw [h3]
  exact hh
/-- what is left: of no more primes than the exponent -/
theorem left_one {l D e p : Nat} (l1 : 1 ≤ l) (D2 : 2 ≤ D) (big : ∀ q, Prime q → q ∣ l → D ≤ q) (lt : l < D ^ (e + 1)) (e1 : 1 ≤ e) (hp : Prime p) (h : e ≤ Pm.vl p l) : l = p ^ e := by
  obtain ⟨c, ec⟩ := (pow_dvd_iff hp l1).mpr h
  have c1 : 1 ≤ c := Nat.pos_of_ne_zero fun y => by
    rw [y, Nat.mul_zero] at ec
    omega
  have Dp := big p hp ((vl_pos hp l1).mp (by omega))
  have pe : D ^ e ≤ p ^ e := Nat.pow_le_pow_left Dp e
  have cD : c < D := Nat.lt_of_not_le fun y => by
    have h1 : D ^ e * D ≤ p ^ e * c := Nat.mul_le_mul pe y
    rw [← Nat.pow_succ, ← ec] at h1
    have h1 : D ^ (e + 1) ≤ l := h1
    omega
  have one : c = 1 := by
    rcases Nat.eq_or_lt_of_le c1 with y | y
    · exact y.symm
    · obtain ⟨s, hs, sd⟩ := prime_factor c y
      have : D ≤ s := big s hs (by rw [ec]; exact Nat.dvd_trans sd (Nat.dvd_mul_left _ _))
      have := Nat.le_of_dvd c1 sd
      omega
  rw [ec, one, Nat.mul_one]
theorem root_pow {e r p : Nat} (e1 : 1 ≤ e) (hr : IsRoot (p ^ e) e r) : r = p := by
  have h1 := hr.1
  have h2 := hr.2
  have a1 : r ≤ p := Nat.le_of_not_lt fun y => by
    have := Nat.pow_lt_pow_left y (show e ≠ 0 by omega)
    omega
  have a2 : p < r + 1 := Nat.lt_of_not_le fun y => by
    have := Nat.pow_le_pow_left y e
    omega
  omega
/-- the root's part: what is left is a power, or holds none -/
theorem great_left {l D e r : Nat} (l1 : 1 ≤ l) (D2 : 2 ≤ D) (big : ∀ q, Prime q → q ∣ l → D ≤ q) (lt : l < D ^ (e + 1)) (e1 : 1 ≤ e) (hr : IsRoot l e r) : Great l e (if l = r ^ e then r else 1) := by
  by_cases c : l = r ^ e
  · have r1 : 1 ≤ r := Nat.pos_of_ne_zero fun y => by
      rw [y, Nat.zero_pow (by omega)] at c
      omega
    rw [if_pos c]
    refine ⟨r1, fun p hp => ?_⟩
    conv => rhs; rw [c]
    rw [vl_pow hp r1, Nat.mul_div_cancel_left _ (by omega)]
  · rw [if_neg c]
    refine ⟨Nat.le_refl 1, fun p hp => ?_⟩
    rw [vl_one, Nat.div_eq_of_lt (Nat.lt_of_not_le fun z => ?_)]
    have el := left_one l1 D2 big lt e1 hp z
    refine c ?_
    have : r = p := by
      rw [el] at hr
      exact root_pow e1 hr
    rw [this]
    exact el
theorem freeG_pos {e : Nat} : ∀ {L : List (Nat × Nat)}, (∀ w ∈ L, Prime w.1) → 1 ≤ freeG e L
  | [], _ => Nat.le_refl 1
  | x :: L, h => Nat.mul_pos (Nat.pow_pos (by have := (h x (List.mem_cons_self ..)).1; omega)) (freeG_pos fun w hw => h w (List.mem_cons_of_mem _ hw))
theorem vl_freeG_no {e p : Nat} (hp : Prime p) : ∀ {L : List (Nat × Nat)}, (∀ w ∈ L, Prime w.1) → (∀ w ∈ L, w.1 ≠ p) → Pm.vl p (freeG e L) = 0
  | [], _, _ => vl_one p
  | x :: L, h, hn => by
    have hx := h x (List.mem_cons_self ..)
    have hL := fun w hw => h w (List.mem_cons_of_mem x hw)
    show Pm.vl p (x.1 ^ (x.2 / e) * freeG e L) = 0
    rw [vl_mul hp (Nat.pow_pos (by have := hx.1; omega)) (freeG_pos hL), vl_freeG_no hp hL fun w hw => hn w (List.mem_cons_of_mem x hw), vl_pow hp (by have := hx.1; omega), vl_prime_ne hp hx (fun z => hn x (List.mem_cons_self ..) z.symm)]
    rfl
theorem vl_freeG {e p t : Nat} (hp : Prime p) : ∀ {L : List (Nat × Nat)}, (∀ w ∈ L, Prime w.1) → (L.map (·.1)).Pairwise (· < ·) → (p, t) ∈ L → Pm.vl p (freeG e L) = t / e
  | [], _, _, hm => by simp at hm
  | x :: L, h, up, hm => by
    have hx := h x (List.mem_cons_self ..)
    have hL := fun w hw => h w (List.mem_cons_of_mem x hw)
    rw [List.map_cons, List.pairwise_cons] at up
    show Pm.vl p (x.1 ^ (x.2 / e) * freeG e L) = t / e
    rw [vl_mul hp (Nat.pow_pos (by have := hx.1; omega)) (freeG_pos hL), vl_pow hp (by have := hx.1; omega)]
    rcases List.mem_cons.mp hm with z | z
    · subst z
      rw [vl_freeG_no hp hL fun w hw z => by
        have := up.1 w.1 (List.mem_map.mpr ⟨w, hw, rfl⟩)
        rw [z] at this
        exact absurd this (Nat.lt_irrefl _), vl_self hp, Nat.mul_one, Nat.add_zero]
    · rw [vl_freeG hp hL up.2 z, vl_prime_ne hp hx (fun y => by
        have := up.1 p (List.mem_map.mpr ⟨_, z, rfl⟩)
        omega), Nat.mul_zero, Nat.zero_add]
theorem great_parted {n e l D r : Nat} {L : List (Nat × Nat)} (h : Parted n (e + 1) L l D) (n1 : 1 ≤ n) (e1 : 1 ≤ e) (hr : IsRoot l e r) : Great n e (if l = r ^ e then freeG e L * r else freeG e L) := by
  have hP := h.pt
  have l1 := hP.l1
  have big : ∀ q, Prime q → q ∣ l → D ≤ q := fun q hq d => Nat.le_of_not_lt fun z => hP.lo q hq z d
  have gl := great_left l1 h.d2 big h.end' e1 hr
  have prs : ∀ w ∈ L, Prime w.1 := fun w hw => (hP.pr w hw).1
  have f1 := freeG_pos (e := e) prs
  have e0 : (if l = r ^ e then freeG e L * r else freeG e L) = freeG e L * (if l = r ^ e then r else 1) := by
    by_cases c : l = r ^ e
    · rw [if_pos c, if_pos c]
    · rw [if_neg c, if_neg c, Nat.mul_one]
  rw [e0]
  refine ⟨Nat.mul_pos f1 gl.pos, fun p hp => ?_⟩
  rw [vl_mul hp f1 gl.pos, gl.vl p hp]
  rcases Nat.lt_or_ge p D with z | z
  · rw [vl_no (hP.lo p hp z), Nat.zero_div, Nat.add_zero]
    by_cases d : p ∣ n
    · exact vl_freeG hp prs hP.nd (hP.all p hp z d)
    · rw [vl_no d, Nat.zero_div]
      exact vl_freeG_no hp prs fun w hw y => by
        obtain ⟨_, _, c3, c4⟩ := hP.pr w hw
        rw [y, vl_no d] at c3
        omega
  · rw [hP.hi p hp z, vl_freeG_no hp prs fun w hw y => by
      obtain ⟨_, c2, _, _⟩ := hP.pr w hw
      omega, Nat.zero_add]
/-! ### counted -/
/-- how many free numbers to n -/
noncomputable def cntFr (n e : Nat) : Nat := S (fun x => I (1 ≤ x ∧ Free x e)) (n + 1)
theorem cntFr_0 (e : Nat) : cntFr 0 e = 0 := by
  show 0 + I (1 ≤ 0 ∧ Free 0 e) = 0
  rw [I_f fun h => absurd h.1 (by decide)]
theorem cntFr_succ (n e : Nat) : cntFr (n + 1) e = cntFr n e + I (Free (n + 1) e) := by
  show S _ (n + 1) + I (1 ≤ n + 1 ∧ Free (n + 1) e) = _
  rw [I_congr (show (1 ≤ n + 1 ∧ Free (n + 1) e) ↔ Free (n + 1) e from ⟨fun h => h.2, fun h => ⟨by omega, h⟩⟩)]
  rfl
theorem SI_const (c : Int) : ∀ n : Nat, SI (fun _ => c) n = c * (n : Int)
  | 0 => by show (0 : Int) = c * ((0 : Nat) : Int); rw [Int.natCast_zero, Int.mul_zero]
  | n + 1 => by
    rw [SI_succ, SI_const c n, Int.natCast_succ, Int.mul_add, Int.mul_one]
theorem root_of_dvd {n e r b x : Nat} (hr : IsRoot n e r) (hx : x ≤ n) (x1 : 1 ≤ x) (h : b ^ e ∣ x) : b ≤ r := Nat.le_of_not_lt fun z => by
  have h1 := Nat.pow_le_pow_left (show r + 1 ≤ b from z) e
  have h2 := Nat.le_of_dvd x1 h
  have h3 := hr.2
  omega
theorem free_count {n e r : Nat} (e1 : 1 ≤ e) (hr : IsRoot n e r) : SI (fun b => if 1 ≤ b then mu b * ((n / b ^ e : Nat) : Int) else 0) (r + 1) = (cntFr n e : Int) := by
  have row : ∀ b, b < r + 1 → (if 1 ≤ b then mu b * ((n / b ^ e : Nat) : Int) else 0) = SI (fun x => if 1 ≤ x ∧ b ^ e ∣ x then (if 1 ≤ b then mu b else 0) else 0) (n + 1) := fun b _ => by
    by_cases b1 : 1 ≤ b
    · rw [if_pos b1, if_pos b1, SI_mult (fun _ => mu b) (Nat.pow_pos b1), SI_const]
    · rw [if_neg b1, SI_congr (g := fun _ => 0) fun x _ => by rw [if_neg b1]; split <;> rfl, SI_zero]
  rw [SI_congr row, SI_swap]
  show _ = ((S (fun x => I (1 ≤ x ∧ Free x e)) (n + 1) : Nat) : Int)
  rw [S_cast]
  refine SI_congr fun x hx => ?_
  by_cases x1 : 1 ≤ x
  · obtain ⟨g, hg⟩ := great_ex e e1 x x1
    have gr : g ≤ r := root_of_dvd hr (by omega) x1 (hg.self x1 e1)
    have e2 : SI (fun b => if 1 ≤ x ∧ b ^ e ∣ x then (if 1 ≤ b then mu b else 0) else 0) (r + 1) = SI (fun b => if 1 ≤ b ∧ b ∣ g then mu b else 0) (r + 1) := SI_congr fun b _ => by
      by_cases b1 : 1 ≤ b
      · have := hg.dvd x1 e1 b1
        by_cases d : b ∣ g
        · rw [if_pos ⟨x1, this.mpr d⟩, if_pos b1, if_pos ⟨b1, d⟩]
        · rw [if_neg fun z => d (this.mp z.2), if_neg fun z => d z.2]
      · rw [if_neg b1, if_neg (show ¬ (1 ≤ b ∧ b ∣ g) from fun z => b1 z.1)]
        split <;> rfl
    rw [e2, mu_sumN hg.pos (by omega)]
    by_cases c : g = 1
    · rw [if_pos c, I_t ⟨x1, (hg.one e1).mp c⟩]
      rfl
    · rw [if_neg c, I_f fun z => c ((hg.one e1).mpr z.2)]
      rfl
  · rw [SI_congr (g := fun _ => 0) fun b _ => if_neg fun z => x1 z.1, SI_zero, I_f fun z => x1 z.1]
    rfl
/-- each number is once a base's power times a free one -/
theorem free_split {n e r : Nat} (e1 : 1 ≤ e) (hr : IsRoot n e r) : S (fun b => if 1 ≤ b then cntFr (n / b ^ e) e else 0) (r + 1) = n := by
  have row : ∀ b, b < r + 1 → (if 1 ≤ b then cntFr (n / b ^ e) e else 0) = S (fun x => if 1 ≤ x ∧ b ^ e ∣ x then (if 1 ≤ b then I (Free (x / b ^ e) e) else 0) else 0) (n + 1) := fun b _ => by
    by_cases b1 : 1 ≤ b
    · have pe : 1 ≤ b ^ e := Nat.pow_pos b1
      rw [if_pos b1, S_congr (g := fun x => if 1 ≤ x ∧ b ^ e ∣ x then (fun x => I (Free (x / b ^ e) e)) x else 0) fun x _ => by rw [if_pos b1], S_mult _ pe]
      show S _ (n / b ^ e + 1) = _
      rw [S_head, I_f fun z => absurd z.1 (by decide), Nat.zero_add]
      refine S_congr fun i _ => I_congr ?_
      rw [Nat.mul_div_cancel_left _ (by omega)]
      exact ⟨fun z => z.2, fun z => ⟨by omega, z⟩⟩
    · rw [if_neg b1, S_congr (g := fun _ => 0) fun x _ => by rw [if_neg b1]; split <;> rfl, S_zero]
  rw [S_congr row, S_swap]
  have col : ∀ x, x < n + 1 → S (fun b => if 1 ≤ x ∧ b ^ e ∣ x then (if 1 ≤ b then I (Free (x / b ^ e) e) else 0) else 0) (r + 1) = I (1 ≤ x) := fun x hx => by
    by_cases x1 : 1 ≤ x
    · obtain ⟨g, hg⟩ := great_ex e e1 x x1
      have gr : g ≤ r := root_of_dvd hr (by omega) x1 (hg.self x1 e1)
      rw [I_t x1, S_congr (g := fun b => if b = g then 1 else 0) fun b _ => ?_, S_one, if_pos (by omega)]
      by_cases d : b ^ e ∣ x
      · by_cases b1 : 1 ≤ b
        · rw [if_pos ⟨x1, d⟩, if_pos b1]
          obtain ⟨y, ey⟩ := d
          have pe : 1 ≤ b ^ e := Nat.pow_pos b1
          have y1 : 1 ≤ y := Nat.pos_of_ne_zero fun z => by rw [z, Nat.mul_zero] at ey; omega
          have vx : ∀ p, Prime p → Pm.vl p x = e * Pm.vl p b + Pm.vl p y := fun p hp => by rw [ey, vl_mul hp pe y1, vl_pow hp b1]
          rw [show x / b ^ e = y by rw [ey, Nat.mul_div_cancel_left _ (by omega)]]
          by_cases c : b = g
          · rw [if_pos c]
            refine I_t fun p hp => ?_
            have h1 := hg.vl p hp
            rw [vx p hp, ← c, Nat.mul_add_div (by omega)] at h1
            have h2 : Pm.vl p y / e = 0 := by omega
            exact (Nat.div_eq_zero_iff.mp h2).resolve_left (by omega)
          · rw [if_neg c]
            refine I_f fun z => c ?_
            exact eq_of_vl b g b1 hg.pos fun p hp => by rw [hg.vl p hp, vx p hp, Nat.mul_add_div (by omega), Nat.div_eq_of_lt (z p hp), Nat.add_zero]
        · rw [if_neg b1, if_neg (show ¬ b = g from fun z => b1 (by rw [z]; exact hg.pos))]
          split <;> rfl
      · rw [if_neg (show ¬ (1 ≤ x ∧ b ^ e ∣ x) from fun z => d z.2), if_neg (show ¬ b = g from fun z => d (by rw [z]; exact hg.self x1 e1))]
    · rw [S_congr (g := fun _ => 0) fun b _ => if_neg fun z => x1 z.1, S_zero, I_f x1]
  rw [S_congr col]
  exact S_ge2 n
end Pm

namespace K24
open PySem PySem.Spec PyProof.Rows L2 Pw SX
def top (i : Nat) : Stmt := PySem.Challenge.pw_powernumbers_k24_whole_kin.main.body.getD i (.Pass ⟨0, 0, 0, 0⟩)
abbrev s_root_of : Stmt := top 2
theorem sc_root_of : FnScope ["number", "exponent", "root"] ["number", "exponent"] (defScope s_root_of) := ⟨rfl, rfl, rfl, by decide +kernel, rfl, by decide +kernel, by decide +kernel⟩
abbrev s_root : Stmt := top 3
theorem sc_root : FnScope ["number", "exponent", "length", "root", "lower"] ["number", "exponent"] (defScope s_root) := ⟨rfl, rfl, rfl, by decide +kernel, rfl, by decide +kernel, by decide +kernel⟩
abbrev s_newton_step : Stmt := top 4
theorem sc_newton_step : FnScope ["number", "exponent", "root"] ["number", "exponent", "root"] (defScope s_newton_step) := ⟨rfl, rfl, rfl, by decide +kernel, rfl, by decide +kernel, by decide +kernel⟩
abbrev s_taken : Stmt := top 5
theorem sc_taken : FnScope ["base", "exponent", "power", "place"] ["base", "exponent"] (defScope s_taken) := ⟨rfl, rfl, rfl, by decide +kernel, rfl, by decide +kernel, by decide +kernel⟩
abbrev s_next_prime : Stmt := top 7
theorem sc_next_prime : FnScope ["number", "following"] ["number"] (defScope s_next_prime) := ⟨rfl, rfl, rfl, by decide +kernel, rfl, by decide +kernel, by decide +kernel⟩
abbrev s_is_prime : Stmt := top 8
theorem sc_is_prime : FnScope ["number", "divisor"] ["number"] (defScope s_is_prime) := ⟨rfl, rfl, rfl, by decide +kernel, rfl, by decide +kernel, by decide +kernel⟩
abbrev s_parted : Stmt := top 9
theorem sc_parted : FnScope ["number", "many", "pairs", "left", "divisor", "root", "_", "times"] ["number", "many"] (defScope s_parted) := ⟨rfl, rfl, rfl, by decide +kernel, rfl, by decide +kernel, by decide +kernel⟩
abbrev s_is_power : Stmt := top 11
theorem sc_is_power : FnScope ["number"] ["number"] (defScope s_is_power) := ⟨rfl, rfl, rfl, by decide +kernel, rfl, by decide +kernel, by decide +kernel⟩
abbrev s_greatest_way : Stmt := top 12
theorem sc_greatest_way : FnScope ["number", "base", "greatest", "prime", "root", "left"] ["number"] (defScope s_greatest_way) := ⟨rfl, rfl, rfl, by decide +kernel, rfl, by decide +kernel, by decide +kernel⟩
abbrev s_is_full : Stmt := top 14
theorem sc_is_full : FnScope ["number", "pairs", "left", "_", "times"] ["number"] (defScope s_is_full) := ⟨rfl, rfl, rfl, by decide +kernel, rfl, by decide +kernel, by decide +kernel⟩
abbrev s_count_full : Stmt := top 15
theorem sc_count_full : FnScope ["most", "root", "_", "signs", "base"] ["most"] (defScope s_count_full) := ⟨rfl, rfl, rfl, by decide +kernel, rfl, by decide +kernel, by decide +kernel⟩
abbrev s_next_full : Stmt := top 16
theorem sc_next_full : FnScope ["number", "root", "_", "base"] ["number"] (defScope s_next_full) := ⟨rfl, rfl, rfl, by decide +kernel, rfl, by decide +kernel, by decide +kernel⟩
abbrev s_next_square_times : Stmt := top 17
theorem sc_next_square_times : FnScope ["number", "factor"] ["number", "factor"] (defScope s_next_square_times) := ⟨rfl, rfl, rfl, by decide +kernel, rfl, by decide +kernel, by decide +kernel⟩
abbrev s_is_free : Stmt := top 18
theorem sc_is_free : FnScope ["number", "exponent"] ["number", "exponent"] (defScope s_is_free) := ⟨rfl, rfl, rfl, by decide +kernel, rfl, by decide +kernel, by decide +kernel⟩
abbrev s_count_free : Stmt := top 19
theorem sc_count_free : FnScope ["most", "exponent", "root", "_", "signs", "base"] ["most", "exponent"] (defScope s_count_free) := ⟨rfl, rfl, rfl, by decide +kernel, rfl, by decide +kernel, by decide +kernel⟩
abbrev s_greatest_in : Stmt := top 20
theorem sc_greatest_in : FnScope ["number", "exponent", "pairs", "left", "greatest", "prime", "times", "root", "over"] ["number", "exponent"] (defScope s_greatest_in) := ⟨rfl, rfl, rfl, by decide +kernel, rfl, by decide +kernel, by decide +kernel⟩
abbrev s_signs_to : Stmt := top 21
theorem sc_signs_to : FnScope ["most", "signs", "number", "sign", "multiple"] ["most"] (defScope s_signs_to) := ⟨rfl, rfl, rfl, by decide +kernel, rfl, by decide +kernel, by decide +kernel⟩
abbrev s_law_deck : Stmt := top 23
theorem sc_law_deck : FnScope ["script", "great", "mixed", "cell"] ["script"] (defScope s_law_deck) := ⟨rfl, rfl, rfl, by decide +kernel, rfl, by decide +kernel, by decide +kernel⟩
abbrev s_law_draw : Stmt := top 24
theorem sc_law_draw : FnScope ["deck", "most", "found", "turn", "one"] ["deck", "most"] (defScope s_law_draw) := ⟨rfl, rfl, rfl, by decide +kernel, rfl, by decide +kernel, by decide +kernel⟩
abbrev s_law_wide : Stmt := top 25
theorem sc_law_wide : FnScope ["deck", "most"] ["deck", "most"] (defScope s_law_wide) := ⟨rfl, rfl, rfl, by decide +kernel, rfl, by decide +kernel, by decide +kernel⟩
abbrev s_law_root : Stmt := top 26
theorem sc_law_root : FnScope ["number", "exponent", "low", "high", "amid"] ["number", "exponent"] (defScope s_law_root) := ⟨rfl, rfl, rfl, by decide +kernel, rfl, by decide +kernel, by decide +kernel⟩
abbrev s_law_taken : Stmt := top 27
theorem sc_law_taken : FnScope ["base", "exponent", "found", "turn"] ["base", "exponent"] (defScope s_law_taken) := ⟨rfl, rfl, rfl, by decide +kernel, rfl, by decide +kernel, by decide +kernel⟩
abbrev s_law_number : Stmt := top 28
theorem sc_law_number : FnScope ["deck", "most", "base", "exponent", "power", "some"] ["deck", "most"] (defScope s_law_number) := ⟨rfl, rfl, rfl, by decide +kernel, rfl, by decide +kernel, by decide +kernel⟩
abbrev s_law_parts_right : Stmt := top 29
theorem sc_law_parts_right : FnScope ["deck", "number", "full", "exponent", "base", "power", "times", "more", "other"] ["deck", "number"] (defScope s_law_parts_right) := ⟨rfl, rfl, rfl, by decide +kernel, rfl, by decide +kernel, by decide +kernel⟩
abbrev s_law_counts_right : Stmt := top 30
theorem sc_law_counts_right : FnScope ["deck", "most", "small", "after", "far", "exponent"] ["deck", "most"] (defScope s_law_counts_right) := ⟨rfl, rfl, rfl, by decide +kernel, rfl, by decide +kernel, by decide +kernel⟩
abbrev s_law : Stmt := top 31
theorem sc_law : FnScope ["script", "deck", "turn", "number"] ["script"] (defScope s_law) := ⟨rfl, rfl, rfl, by decide +kernel, rfl, by decide +kernel, by decide +kernel⟩
end K24

open PySem PySem.Spec PyProof.Rows L2 Pw SX
local macro_rules | `(tactic| walk_at "p1") => `(tactic| first
  | with_reducible refine r_seq ?_
  | with_reducible refine r_set ?_
  | with_reducible refine r_op ?_
  | with_reducible refine' r_var (by with_unfolding_all exact rfl) ?_
  | with_reducible refine r_c ?_
  | with_reducible refine r_I0 ?_
  | with_reducible refine r_exB ?_
  | with_reducible refine r_exI ?_
  | with_reducible refine r_test ?_
  | with_reducible refine r_if ?_
  | with_reducible refine r_eqI ?_
  | with_reducible refine r_neI ?_
  | with_reducible refine r_ret ?_
  | with_reducible refine r_cons ?_
  | with_reducible refine r_nil ?_
  | with_reducible refine r_call ?_
  | with_reducible refine r_CB ?_
  | with_reducible refine r_asg ?_
  | with_reducible refine r_drop ?_
  | with_reducible refine r_and ?_
  | with_reducible refine r_or ?_
  | with_reducible refine r_not ?_
  | with_reducible refine iteT ?_
  | with_reducible refine iteF ?_
  | with_reducible refine iteNT ?_
  | with_reducible refine iteNF ?_
  | with_reducible refine r_B ?_
  | with_reducible refine r_andV ?_
  | with_reducible refine r_orV ?_
  | with_reducible refine r_notV ?_
  | with_reducible refine r_tup ?_
  | with_reducible refine r_lst ?_
  | with_reducible refine r_min2 ?_
  | with_reducible refine r_max2 ?_
  | with_reducible refine r_sl ?_
  | with_reducible refine r_noPart ?_
  | with_reducible refine r_part ?_
  | with_reducible refine r_gName ?_
  | with_reducible refine r_gSub ?_
  | with_reducible refine r_bits ?_
  | with_reducible refine r_truth ?_
  | with_reducible refine r_truI ?_
  | with_reducible refine r_truB ?_
  | with_reducible refine r_un ?_
  | with_reducible refine r_U ?_
  | with_reducible refine r_next ?_
  | with_reducible refine r_BM ?_
  | with_reducible refine r_for ?_
  | with_reducible refine r_rng1 ?_
  | with_reducible refine r_ex1 ?_
  | with_reducible refine r_iList ?_
  | with_reducible refine r_iTup ?_
  | with_reducible refine r_revR ?_
  | with_reducible refine r_tRg1 ?_
  | with_reducible refine r_ifE ?_
  | with_reducible refine r_lc ?_
  | with_reducible refine' r_ixL (SqL.of (by assumption)) (by with_unfolding_all exact rfl) ?_
  | with_reducible refine' r_ixT (SqT.of (by assumption)) (by with_unfolding_all exact rfl) ?_
  | with_reducible refine' r_lenL (SqL.of (by assumption)) ?_
  | with_reducible refine' r_lenT (SqT.of (by assumption)) ?_
  | with_reducible refine' r_slL (by first | with_reducible assumption | exact SqL.of (by with_reducible assumption)) ?_
  | with_reducible refine r_pow2 ?_
  | with_reducible refine r_pow3 ?_
  | with_reducible refine r_pow4 ?_
  | with_reducible refine r_pow5 ?_
  | with_reducible refine r_pow6 ?_
  | with_reducible refine r_pow8 ?_
  | with_reducible refine r_pow9 ?_
  | with_reducible refine r_pow10 ?_
  | with_reducible refine r_pow11 ?_
  | with_reducible refine r_pow12 ?_
  | with_reducible refine r_pow18 ?_
  | with_reducible refine r_pow20 ?_
  | with_reducible refine r_pow30 ?_
  | with_reducible refine r_pow35 ?_
  | with_reducible refine r_pow40 ?_
  | with_reducible refine r_pow41 ?_
  | with_reducible refine r_pow42 ?_
  | with_reducible refine r_pow50 ?_
  | with_reducible refine r_pow60 ?_
  | with_reducible refine r_I (by with_unfolding_all decide) ?_)
local macro_rules | `(tactic| walk_at "ps") => `(tactic| first
  | with_reducible refine r_M1 ?_
  | with_reducible refine r_rng2 ?_
  | with_reducible refine r_yes ?_
  | with_reducible refine r_rng3 ?_
  | with_reducible refine r_ex2 ?_
  | with_reducible refine' r_aug (by with_unfolding_all exact rfl) ?_
  | with_reducible refine r_ipI ?_
  | with_reducible refine r_exS ?_
  | with_reducible refine r_eqSS ?_
  | with_reducible refine r_neSS ?_
  | with_reducible refine r_inSign ?_
  | with_reducible refine r_iStr ?_
  | with_reducible refine r_exStr ?_
  | with_reducible refine r_revL ?_)
local macro_rules | `(tactic| walk_at "pi") => `(tactic| first
  | with_reducible refine r_isiII ?_
  | with_reducible refine r_isiIB ?_
  | with_reducible refine r_isiIT ?_
  | with_reducible refine r_isiBB ?_
  | with_reducible refine r_isiSS ?_
  | with_reducible refine' r_isiTT (by assumption) ?_
  | with_reducible refine' r_isiTB (by assumption) ?_
  | with_reducible refine' r_isiTI (by assumption) ?_)
local macro_rules | `(tactic| walk_at "pw") => `(tactic| repeat (first | walk_at "p1" | walk_at "pi" | walk_at "ps"))
local macro_rules | `(tactic| walk_at "p0") => `(tactic| ((try simp only [cxK, cxK2, lit_e, lit_fig, lit_0, lit_hat, lit_00, lit_210]); repeat (first | walk_at "p1" | walk_at "pi" | walk_at "ps")))
local macro_rules | `(tactic| walk_at "pm") => `(tactic| first
  | refine r_I (mulx_of 40 40 (by first | decide | omega) (by first | decide | omega) (by decide)) ?_
  | refine r_I (mulx_of 100 100 (by first | decide | omega) (by first | decide | omega) (by decide)) ?_
  | refine r_I (mulx_of 400 400 (by first | decide | omega) (by first | decide | omega) (by decide)) ?_)
local macro_rules | `(tactic| walk_at "pd") => `(tactic| refine r_I (show CDivW _ _ from wide_div (b := 400) (by first | decide | omega) (by first | decide | omega) (by decide) (by decide)) ?_)

namespace K24
open PySem PySem.Spec PyProof.Rows L2 Pw SX
section
variable {P : Program} {w : World} {K : PySem.W.Frag} {mg : Str → Option Value} {base : Heap}
theorem ok_taken (F : Pl K mg "taken" s_taken ["base", "exponent"]) (B : Bl mg) : Def P w K mg base 1 "taken" ["base", "exponent"] spTaken := by
  refine F.ok sc_taken (fun vs H Q E h => ?_) (fun f cdv A outer s H vs Q E hr h => ?_)
  · obtain ⟨c, k, a, rfl, _⟩ := h
    rfl
  · obtain ⟨b, e, a, rfl, hb, hae, he, q⟩ := h
    refine ⟨_, (pss_cons (ps_set (i := 2) sc_taken.nd rfl (Or.inl rfl) pe_int)
      (pss_cons (ps_for PassesOwn.never rfl (pi_revR (by rfl) B.reversed (prg_1 (by rfl) B.range (pe_bits (pv 1)))) (pg_name (i := 3) sc_taken.nd rfl (Or.inl rfl))
      (pss_cons (ps_set (i := 2) sc_taken.nd rfl (Or.inl rfl) (pe_op op_mulX (pv 2) (pv 2)))
      (pss_one (ps_if (pt_tru (pe_op op_oddN (pe_op op_shr (pv 1) (pv 3)) pe_int) (by intro _; rfl)) (pss_one (ps_set (i := 2) sc_taken.nd rfl (Or.inl rfl) (pe_op op_mulX (pv 2) (pv 0)))) pss_nil))))
      (pss_one (ps_ret (pv 2))))), ?_⟩
    refine at_st [some (.int b), some (.int e), none, none] rfl ?_
    walk_at "p0"
    have hL1 := Pw.bits_lt e
    have hL2 := bits_le he
    generalize Builtin.Int.intBits (e : Int) = L at *
    rw [show ((L : Int) - 0).toNat = L by omega]
    refine ⟨by decide, by decide, by omega, by omega, for_rangeC (fun i σ H' => ∃ (v : Option V), i ≤ L ∧ σ = [some (.int b), some (.int e), some (.int ((b ^ (e / 2 ^ (L - i)) : Nat) : Int)), v] ∧ H' = H) ⟨none, Nat.zero_le _, ?_, rfl⟩ ?_ ?_⟩
    · rw [Nat.sub_zero, Nat.div_eq_of_lt hL1]
      rfl
    · rintro i σ H1 hi ⟨v, _, rfl, rfl⟩
      obtain ⟨p, hp⟩ : ∃ p, L - i = p + 1 := ⟨L - i - 1, by omega⟩
      have hp' : L - (i + 1) = p := by omega
      have item : (0 : Int) + (L : Int) - 1 + (i : Int) * -1 = (p : Int) := by omega
      rw [item, hp]
      have le1 : e / 2 ^ (p + 1) ≤ e := Nat.div_le_self _ _
      walk_at "pw"
      refine r_I (mulx_pows hb hae le1 le1) ?_
      walk_at "pw"
      refine r_I (by omega) ?_
      walk_at "pw"
      have e1 : ((e : Int)) / 2 ^ ((p : Int)).toNat = ((e / 2 ^ p : Nat) : Int) := by
        rw [Int.toNat_natCast]
        exact_mod_cast rfl
      refine r_odd e1 ?_
      walk_at "pw"
      have pt := pow_at (b := b) (e := e) (p := p)
      have m2 : b ^ (e / 2 ^ (p + 1)) * b ^ (e / 2 ^ (p + 1)) ≤ 2 ^ (a * e) := by
        rw [← Nat.pow_add]
        refine Pm.pow_bound hb ?_
        have := Nat.div_mul_le_self e (2 ^ (p + 1))
        have h2 : e / 2 ^ (p + 1) = e / 2 ^ p / 2 := by rw [Nat.pow_succ, Nat.div_div_eq_div_mul]
        have h3 : e / 2 ^ p ≤ e := Nat.div_le_self _ _
        omega
      refine r_bne (fun h1 => ?_) (fun h1 => ?_)
      · have h1' : e / 2 ^ p % 2 = 1 := by omega
        rw [if_pos h1'] at pt
        walk_at "pw"
        have hb1 : b ≤ 2 ^ a := Nat.le_of_lt hb
        have a1 : a ≤ a * e ∨ e = 0 := by
          rcases Nat.eq_zero_or_pos e with z | z
          · exact .inr z
          · exact .inl (Nat.le_mul_of_pos_right _ z)
        have a1' : a ≤ a * e := by
          rcases a1 with z | z
          · exact z
          · rw [z, Nat.zero_div] at h1'
            exact absurd h1' (by decide)
        refine r_I ?_ ?_
        · have := mulx_nat (n := b ^ (e / 2 ^ (p + 1)) * b ^ (e / 2 ^ (p + 1))) (m := b) (a * e) (a * e) m2 (Nat.le_trans hb1 (Nat.pow_le_pow_right (by decide) a1')) (by omega)
          rw [Int.natCast_mul] at this
          exact this
        · refine ⟨some (.int p), by omega, ?_, rfl⟩
          rw [hp', pt]
          push_cast
          rfl
      · have h1' : ¬ e / 2 ^ p % 2 = 1 := by omega
        rw [if_neg h1'] at pt
        walk_at "pw"
        refine ⟨some (.int p), by omega, ?_, rfl⟩
        rw [hp', pt]
        push_cast
        rfl
    · rintro σ H1 ⟨v, _, rfl, rfl⟩
      walk_at "pw"
      rw [Nat.sub_self, Nat.pow_zero, Nat.div_one]
      exact q
end
end K24

namespace K24
open PySem PySem.Spec PyProof.Rows L2 Pw SX
section
variable {P : Program} {w : World} {K : PySem.W.Frag} {mg : Str → Option Value} {base : Heap}
theorem ok_newton_step (F : Pl K mg "_newton_step" s_newton_step ["number", "exponent", "root"]) (D_taken : Def P w K mg base 1 "taken" ["base", "exponent"] spTaken) : Def P w K mg base 2 "_newton_step" ["number", "exponent", "root"] spStep := by
  refine F.ok sc_newton_step (fun vs H Q E h => ?_) (fun f cdv A outer s H vs Q E hr h => ?_)
  · obtain ⟨n, m, x, s, rfl, _⟩ := h
    rfl
  · obtain ⟨n, m, x, s, rfl, x0, xs, sm, hm, hs, q⟩ := h
    refine ⟨_, (pss_one (ps_ret (pe_op op_fdivW (pe_op op_add (pe_op op_mulX (pe_op op_sub (pv 1) pe_int) (pv 2)) (pe_op op_fdivW (pv 0) (pe_df D_taken hr (by rfl) (pa_cons (pv 2) (pa_cons (pe_op op_sub (pv 1) pe_int) pa_nil))))) (pv 1)))), ?_⟩
    refine at_st [some (.int n), some (.int ((m + 1 : Nat) : Int)), some (.int x)] rfl ?_
    walk_at "p0"
    rw [show (((m + 1 : Nat) : Int) - 1) = (m : Int) by omega]
    refine r_I (mulx_nat 20 s (by omega) xs (by omega)) ?_
    walk_at "pw"
    rw [show (((m + 1 : Nat) : Int) - 1) = (m : Int) by omega]
    have x1 : x < 2 ^ (s + 1) := Nat.lt_of_le_of_lt xs (Nat.pow_lt_pow_right (by decide) (Nat.lt_succ_self s))
    refine ⟨_, _, s + 1, rfl, x1, ?_, by omega, ?_⟩
    · rw [Nat.succ_mul]
      omega
    have hp : 0 < x ^ m := Nat.pow_pos x0
    have hp2 : x ^ m < 2 ^ 8901 := by
      refine Nat.lt_of_le_of_lt (Nat.pow_le_pow_left xs m) ?_
      rw [← Nat.pow_mul]
      exact Nat.pow_lt_pow_right (by decide) (by omega)
    refine r_I (wide_div (b := 8901) (by exact_mod_cast hp) (cast_lt hp2) (by decide) (by decide)) ?_
    walk_at "pw"
    refine r_I (wide_div (b := 20) (by omega) (by omega) (by decide) (by decide)) ?_
    have e : ((m : Int) * (x : Int) + (n : Int) / ((x ^ m : Nat) : Int)) / ((m + 1 : Nat) : Int) = ((Pm.step n m x : Nat) : Int) := by
      unfold Pm.step
      push_cast
      rfl
    rw [e]
    exact q
theorem ok_root (F : Pl K mg "_root" s_root ["number", "exponent"]) (M_isqrt : mg "isqrt" = some (.builtin "math.isqrt")) (D_newton_step : Def P w K mg base 2 "_newton_step" ["number", "exponent", "root"] spStep) : Def P w K mg base 3 "_root" ["number", "exponent"] spRoot := by
  refine F.ok sc_root (fun vs H Q E h => ?_) (fun f cdv A outer s H vs Q E hr h => ?_)
  · obtain ⟨n, e, rfl, _⟩ := h
    rfl
  · obtain ⟨n, e, rfl, e0, e1, n1, q⟩ := h
    refine ⟨_, (pss_cons (ps_if (PW.pt (pw_or (pt_cmpR op_eq (pv 1) pe_int (nomark _)) (pw_or1 (pt_cmpR op_lt (pv 0) pe_int (nomark _))))) (pss_one (ps_ret (pv 0))) pss_nil)
      (pss_cons (ps_if (pt_cmpR op_eq (pv 1) pe_int (nomark _)) (pss_one (ps_ret (pe_callBfun cr_isqrt (by rfl) M_isqrt (pa_cons (pv 0) pa_nil)))) pss_nil)
      (pss_cons (ps_set (i := 2) sc_root.nd rfl (Or.inl rfl) (pe_bits (pv 0)))
      (pss_cons (ps_if (pt_cmpR op_le (pv 2) (pv 1) (nomark _)) (pss_one (ps_ret pe_int)) pss_nil)
      (pss_cons (ps_set (i := 3) sc_root.nd rfl (Or.inl rfl) (pe_op op_shlW pe_int (pe_op op_add (pe_op op_fdivW (pe_op op_sub (pv 2) pe_int) (pv 1)) pe_int)))
      (pss_cons (ps_set (i := 4) sc_root.nd rfl (Or.inl rfl) (pe_df D_newton_step hr (by rfl) (pa_cons (pv 0) (pa_cons (pv 1) (pa_cons (pv 3) pa_nil)))))
      (pss_cons (ps_while PassesOwn.never (pt_cmpR op_lt (pv 4) (pv 3) (nomark _)) (pss_cons (ps_set (i := 3) sc_root.nd rfl (Or.inl rfl) (pv 4))
      (pss_one (ps_set (i := 4) sc_root.nd rfl (Or.inl rfl) (pe_df D_newton_step hr (by rfl) (pa_cons (pv 0) (pa_cons (pv 1) (pa_cons (pv 3) pa_nil))))))))
      (pss_one (ps_ret (pv 3)))))))))), ?_⟩
    refine at_st [some (.int n), some (.int e), none, none, none] rfl ?_
    walk_at "p0"
    refine r_iteI (fun h1 => ?_) (fun h1 => ?_)
    · have : e = 1 := by omega
      subst this
      walk_at "pw"
      exact q n ⟨by rw [Nat.pow_one]; exact Nat.le_refl _, by rw [Nat.pow_one]; exact Nat.lt_succ_self _⟩
    · walk_at "pw"
      refine r_ite (fun h2 => ?_) (fun h2 => ?_)
      · walk_at "pw"
        refine q n ?_
        have : n = 0 ∨ n = 1 := by omega
        rcases this with rfl | rfl
        · exact ⟨by rw [Nat.zero_pow e0]; exact Nat.le_refl _, by rw [Nat.zero_add, Nat.one_pow]; exact Nat.one_pos⟩
        · exact ⟨by rw [Nat.one_pow]; exact Nat.le_refl _, Nat.one_lt_pow (by omega) (by decide)⟩
      · walk_at "pw"
        refine r_iteI (fun h3 => ?_) (fun h3 => ?_)
        · have : e = 2 := by omega
          subst this
          walk_at "pw"
          refine r_isqrt (Nat.lt_trans n1 (Nat.pow_lt_pow_right (by decide) (by decide))) fun r r1 r2 => ?_
          exact q r ⟨by rw [Nat.pow_two]; exact r1, by rw [Nat.pow_two]; exact r2⟩
        · walk_at "pw"
          have hL1 := Pw.bits_lt n
          have hL2 := bits_le n1
          have hL3 := (bits_ge (n := n) (by omega)).2
          generalize Builtin.Int.intBits (n : Int) = L at *
          refine r_ite (fun h4 => ?_) (fun h4 => ?_)
          · walk_at "pw"
            refine q 1 ⟨by rw [Nat.one_pow]; omega, Nat.lt_of_lt_of_le hL1 (Nat.pow_le_pow_right (by decide) (by omega))⟩
          · walk_at "pw"
            refine r_I (wide_div (b := 20) (by omega) (by omega) (by decide) (by decide)) ?_
            walk_at "pw"
            have eq1 : ((L : Int) - 1) / (e : Int) = (((L - 1) / e : Nat) : Int) := by
              rw [show (L : Int) - 1 = ((L - 1 : Nat) : Int) by omega]
              exact_mod_cast rfl
            rw [eq1]
            have le1 : (L - 1) / e ≤ L - 1 := Nat.div_le_self _ _
            obtain ⟨qd, hqd⟩ : ∃ qd, qd = (L - 1) / e := ⟨_, rfl⟩
            rw [← hqd] at le1 ⊢
            refine r_shl1 (by omega) (by omega) fun k ek => ?_
            have ek' : k = (L - 1) / e + 1 := by omega
            obtain ⟨m, rfl⟩ : ∃ m, e = m + 1 := ⟨e - 1, by omega⟩
            have sb := s_bound (L := L) (e := m + 1) (by omega) ek'
            rw [Nat.add_sub_cancel] at sb
            have st := root_start (n := n) (e := m + 1) (L := L) (by omega) (by omega) hL1
            rw [← ek'] at st
            have e2k : (2 : Int) ^ k = ((2 ^ k : Nat) : Int) := by push_cast; rfl
            rw [e2k]
            walk_at "pw"
            refine ⟨n, m, 2 ^ k, k, rfl, Nat.pow_pos (by decide), Nat.le_refl _, by omega, by omega, by omega, ?_⟩
            walk_at "pw"
            refine r_while (fun σ H' => ∃ x : Nat, σ = [some (.int n), some (.int ((m + 1 : Nat) : Int)), some (.int L), some (.int x), some (.int (Pm.step n m x : Nat))] ∧ 0 < x ∧ x ≤ 2 ^ k ∧ n < (x + 1) ^ (m + 1) ∧ H' = H) (fun σ _ => meas σ)
              ⟨2 ^ k, rfl, Nat.pow_pos (by decide), Nat.le_refl _, st, rfl⟩ ?_ mono_vv
            rintro σ H1 ⟨x, rfl, x0, x1, x2, rfl⟩ N hN
            walk_at "pw"
            refine r_ite (fun h5 => ?_) (fun h5 => ?_)
            · walk_at "pw"
              have sp0 := step_pos (n := n) (m := m) (x := x) (by omega) x0
              refine ⟨n, m, Pm.step n m x, k, rfl, sp0, by omega, by omega, by omega, by omega, ?_⟩
              refine hN _ _ ⟨Pm.step n m x, rfl, sp0, by omega, Pm.step_up x0, rfl⟩ ?_
              show ((Pm.step n m x : Nat) : Int).toNat < ((x : Nat) : Int).toNat
              omega
            · walk_at "pw"
              exact q x (root_done x0 x2 (by omega))
theorem ok_root_of (F : Pl K mg "root_of" s_root_of ["number", "exponent"]) (D_root : Def P w K mg base 3 "_root" ["number", "exponent"] spRoot) (D_taken : Def P w K mg base 1 "taken" ["base", "exponent"] spTaken) : Def P w K mg base 4 "root_of" ["number", "exponent"] spRootOf := by
  refine F.ok sc_root_of (fun vs H Q E h => ?_) (fun f cdv A outer s H vs Q E hr h => ?_)
  · obtain ⟨n, e, rfl, _⟩ := h
    rfl
  · obtain ⟨n, e, rfl, e0, e1, n1, q⟩ := h
    refine ⟨_, (pss_cons (ps_set (i := 2) sc_root_of.nd rfl (Or.inl rfl) (pe_df D_root hr (by rfl) (pa_cons (pv 0) (pa_cons (pv 1) pa_nil))))
      (pss_one (ps_ret (pe_tup (pa_cons (pv 2) (pa_cons (pe_op op_sub (pv 0) (pe_df D_taken hr (by rfl) (pa_cons (pv 2) (pa_cons (pv 1) pa_nil)))) pa_nil)))))), ?_⟩
    refine at_st [some (.int n), some (.int e), none] rfl ?_
    walk_at "p0"
    refine ⟨n, e, rfl, e0, by omega, n1, fun r hr1 => ?_⟩
    walk_at "pw"
    have r1 : r ≤ n := by
      refine Nat.le_trans ?_ hr1.1
      rcases Nat.eq_zero_or_pos r with z | z
      · rw [z]; exact Nat.zero_le _
      · exact Nat.le_self_pow (by omega) r
    refine ⟨r, e, 4000, rfl, Nat.lt_of_le_of_lt r1 n1, by omega, by omega, ?_⟩
    walk_at "pw"
    refine newT (by simp) fun p H1 np hp s1 => ?_
    exact q r p H1 hr1 np s1 hp
end
end K24

namespace K24
open PySem PySem.Spec PyProof.Rows L2 Pw SX TL
section
variable {P : Program} {w : World} {K : PySem.W.Frag} {mg : Str → Option Value} {base : Heap}
theorem ok_parted (F : Pl K mg "parted" s_parted ["number", "many"]) (D_root_of : Def P w K mg base 4 "root_of" ["number", "exponent"] spRootOf) : Def P w K mg base 5 "parted" ["number", "many"] spParted := by
  refine F.ok sc_parted (fun vs H Q E h => ?_) (fun f cdv A outer s H vs Q E hr h => ?_)
  · obtain ⟨n, m, rfl, _⟩ := h
    rfl
  · obtain ⟨n, m, rfl, n1, nb, m1, mb, q⟩ := h
    refine ⟨_, (pss_cons (ps_set (i := 2) sc_parted.nd rfl (Or.inl rfl) (pe_lst pa_nil))
      (pss_cons (ps_set (i := 3) sc_parted.nd rfl (Or.inl rfl) (pv 0))
      (pss_cons (ps_set (i := 4) sc_parted.nd rfl (Or.inl rfl) pe_int)
      (pss_cons (ps_asg (pe_df D_root_of hr (by rfl) (pa_cons (pv 3) (pa_cons (pv 1) pa_nil))) (pg_tup (by rfl) (pgs_cons (pg_name (i := 5) sc_parted.nd rfl (Or.inl rfl)) (pgs_cons (pg_name (i := 6) sc_parted.nd rfl (Or.inl rfl)) pgs_nil))))
      (pss_cons (ps_while PassesOwn.never (pt_cmpR op_le (pv 4) (pv 5) (nomark _)) (pss_cons (ps_set (i := 7) sc_parted.nd rfl (Or.inl rfl) pe_int)
      (pss_cons (ps_while PassesOwn.never (pt_cmpR op_eq (pe_op op_mod (pv 3) (pv 4)) pe_int (nomark _)) (pss_cons (ps_set (i := 3) sc_parted.nd rfl (Or.inl rfl) (pe_op op_fdivW (pv 3) (pv 4)))
      (pss_one (ps_aug (i := 7) sc_parted.nd rfl (Or.inl rfl) pe_int ip_add))))
      (pss_cons (ps_if (pt_cmpR op_gt (pv 7) pe_int (nomark _)) (pss_cons (ps_expr (pe_bm PySem.F.plainAttrs_list PySem.F.slot_list_append PySem.F.type_list_append mt_append (pv 2) (pa_cons (pe_tup (pa_cons (pv 4) (pa_cons (pv 7) pa_nil))) pa_nil)))
      (pss_one (ps_asg (pe_df D_root_of hr (by rfl) (pa_cons (pv 3) (pa_cons (pv 1) pa_nil))) (pg_tup (by rfl) (pgs_cons (pg_name (i := 5) sc_parted.nd rfl (Or.inl rfl)) (pgs_cons (pg_name (i := 6) sc_parted.nd rfl (Or.inl rfl)) pgs_nil)))))) pss_nil)
      (pss_one (ps_aug (i := 4) sc_parted.nd rfl (Or.inl rfl) pe_int ip_add))))))
      (pss_one (ps_ret (pe_tup (pa_cons (pv 2) (pa_cons (pv 3) pa_nil)))))))))), ?_⟩
    have big : ∀ l, l ≤ n → l < 2 ^ 4000 := fun l h => Nat.lt_trans (Nat.lt_of_le_of_lt h nb) (Nat.pow_lt_pow_right (by decide) (by decide))
    refine at_st [some (.int n), some (.int m), none, none, none, none, none, none] rfl ?_
    walk_at "p0"
    refine newL (by simp) fun a H1 na ha s1 => ?_
    walk_at "pw"
    refine ⟨n, m, rfl, by omega, mb, big n (Nat.le_refl _), fun r p H2 hr0 np s2 hp => ?_⟩
    walk_at "pw"
    refine r_gTup2 hp ?_
    walk_at "pw"
    have ha2 := s2 _ _ ha
    refine r_whl (fun σ G => ∃ (L : List (Nat × Nat)) (l D r : Nat) (ps : List Addr) (v6 v7 : Option V), σ = [some (.int n), some (.int m), some (.ref a), some (.int (l : Int)), some (.int (D : Int)), some (.int (r : Int)), v6, v7] ∧ Pm.Pt n L l D ∧ Pm.IsRoot l m r ∧ 2 ≤ D ∧ 2 ^ L.length * l ≤ n ∧
        G a = some (.lst (ps.map V.ref)) ∧ PairsAt G ps L ∧ Same H G)
      (fun (σ : L2.St) (_ : Hp) => match σ[4]?, σ[5]? with | some (some (V.int D)), some (some (V.int r)) => (r + 1 - D).toNat | _, _ => 0)
      ⟨[], n, 2, r, [], _, none, rfl, Pm.Pt.new n1, hr0, Nat.le_refl 2, by simp, ha2, PairsAt.nil, s1.trans s2⟩ ?_
    rintro σ G ⟨L, l, D, r, ps, v6, v7, rfl, hP, hR, D2, hsm, hG, hps, sG⟩
    have ln : l ≤ n := by
      have : 1 * l ≤ 2 ^ L.length * l := Nat.mul_le_mul_right _ (Nat.pow_pos (by decide))
      omega
    walk_at "pw"
    refine r_ite (fun hle => ?_) (fun hgt => ?_)
    · have rn := root_le (show 0 < m by omega) hR
      refine whileGo fun N hN => ?_
      walk_at "pw"
      refine r_whl (fun σ G' => ∃ (l' t : Nat), σ = [some (.int n), some (.int m), some (.ref a), some (.int (l' : Int)), some (.int (D : Int)), some (.int (r : Int)), v6, some (.int (t : Int))] ∧ l = D ^ t * l' ∧ 1 ≤ l' ∧ G' = G)
        (fun (σ : L2.St) (_ : Hp) => match σ[3]? with | some (some (V.int l)) => l.toNat | _ => 0)
        ⟨l, 0, rfl, by rw [Nat.pow_zero, Nat.one_mul], hP.l1, rfl⟩ ?_
      rintro σ G' ⟨l', t, rfl, el, l1', rfl⟩
      walk_at "pw"
      refine r_I (by omega) ?_
      walk_at "pw"
      refine r_iteI (fun hd => ?_) (fun hnd => ?_)
      · refine whileGo fun N' hN' => ?_
        walk_at "pw"
        refine r_I (show CDivW _ _ from wide_div (b := 62) (by omega) (by omega) (by decide) (by decide)) ?_
        walk_at "pw"
        have hd' : D ∣ l' := Nat.dvd_of_mod_eq_zero (by omega)
        obtain ⟨c, rfl⟩ := hd'
        have c1 : 1 ≤ c := by
          rcases Nat.eq_zero_or_pos c with w | w
          · subst w; omega
          · exact w
        have ec : (((D * c : Nat) : Int) / (D : Int)) = (c : Int) := by
          rw [Int.natCast_mul, Int.mul_ediv_cancel_left _ (by omega)]
        rw [ec]
        refine hN' _ _ ⟨c, t + 1, by push_cast; rfl, by rw [el, Nat.pow_succ, Nat.mul_assoc], c1, rfl⟩ ?_
        show ((c : Nat) : Int).toNat < ((D * c : Nat) : Int).toNat
        have : 2 * c ≤ D * c := Nat.mul_le_mul_right _ D2
        omega
      · have nd : ¬ D ∣ l' := fun z => hnd (by have := Nat.mod_eq_zero_of_dvd z; omega)
        have ll : l' ≤ l := by
          rw [el]
          have : 1 * l' ≤ D ^ t * l' := Nat.mul_le_mul_right _ (Nat.pow_pos (by omega))
          omega
        walk_at "pw"
        refine r_ite (fun ht => ?_) (fun ht => ?_)
        · have t1 : 1 ≤ t := by omega
          walk_at "pw"
          refine ⟨.inl ⟨rfl, _, SqL.of hG⟩, ?_⟩
          walk_at "pw"
          refine newT (by simp) fun p3 H3 np3 hp3 s3 => ?_
          have hG3 := s3 _ _ hG
          have len2 : 2 ^ L.length ≤ n := by
            have : 2 ^ L.length * 1 ≤ 2 ^ L.length * l := Nat.mul_le_mul_left _ hP.l1
            omega
          have len60 : L.length < 60 := by
            refine Nat.lt_of_not_le fun z => ?_
            have h1 : 2 ^ 60 ≤ 2 ^ L.length := Nat.pow_le_pow_right (by decide) z
            omega
          walk_at "pw"
          refine r_append hG3 (few_line (by rw [List.length_map, hps.1]; omega)) ?_
          walk_at "pw"
          have hps4 : PairsAt (upd H3 a (.lst (ps.map V.ref ++ [V.ref p3]))) (ps ++ [p3]) (L ++ [(D, t)]) := ((hps.same s3).push hp3).upd hG3
          have s4 : Same H (upd H3 a (.lst (ps.map V.ref ++ [V.ref p3]))) := same_updNew (sG.trans s3) na
          have e4 : (upd H3 a (.lst (ps.map V.ref ++ [V.ref p3]))) a = some (.lst ((ps ++ [p3]).map V.ref)) := by rw [upd_same, List.map_append]; rfl
          generalize upd H3 a (.lst (ps.map V.ref ++ [V.ref p3])) = H4 at *
          refine ⟨l', m, rfl, by omega, mb, big l' (by omega), fun r2 p5 H5 hr2 np5 s5 hp5 => ?_⟩
          walk_at "pw"
          refine r_gTup2 hp5 ?_
          walk_at "pw"
          refine hN _ _ ⟨L ++ [(D, t)], l', D + 1, r2, ps ++ [p3], _, _, by push_cast; rfl, hP.some n1 D2 t1 el nd, hr2, by omega, ?_, s5 _ _ e4, hps4.same s5, s4.trans s5⟩ ?_
          · rw [List.length_append, List.length_singleton, Nat.pow_succ, Nat.mul_assoc]
            refine Nat.le_trans (Nat.mul_le_mul_left _ ?_) hsm
            rw [el]
            exact Nat.mul_le_mul_right _ (Nat.le_trans D2 (Nat.le_self_pow (by omega) D))
          · have := Pm.root_mono hR hr2 ll
            show ((r2 : Int) + 1 - ((D : Int) + 1)).toNat < ((r : Int) + 1 - (D : Int)).toNat
            omega
        · have t0 : t = 0 := by omega
          subst t0
          rw [Nat.pow_zero, Nat.one_mul] at el
          subst el
          walk_at "pw"
          refine hN _ _ ⟨L, l, D + 1, r, ps, _, _, by push_cast; rfl, hP.none n1 nd, hR, by omega, hsm, hG, hps, sG⟩ ?_
          show ((r : Int) + 1 - ((D : Int) + 1)).toNat < ((r : Int) + 1 - (D : Int)).toNat
          omega
    · walk_at "pw"
      refine newT (by simp) fun p3 H3 np3 hp3 s3 => ?_
      have hlt : r + 1 ≤ D := by omega
      exact q L l D p3 a ps H3 ⟨hP, D2, hsm, Nat.lt_of_lt_of_le hR.2 (Nat.pow_le_pow_left hlt m)⟩ (sG.free np3) na (ne_of_none hG np3).symm (sG.trans s3) hp3 (s3 _ _ hG) (hps.same s3)
end
end K24

namespace K24
open PySem PySem.Spec PyProof.Rows L2 Pw SX TL
section
variable {P : Program} {w : World} {K : PySem.W.Frag} {mg : Str → Option Value} {base : Heap}
theorem ok_is_prime (F : Pl K mg "_is_prime" s_is_prime ["number"]) (B : Bl mg) (M_isqrt : mg "isqrt" = some (.builtin "math.isqrt")) : Def P w K mg base 1 "_is_prime" ["number"] spIsPrime := by
  refine F.ok sc_is_prime (fun vs H Q E h => ?_) (fun f cdv A outer s H vs Q E hr h => ?_)
  · obtain ⟨n, rfl, _⟩ := h
    rfl
  · obtain ⟨n, rfl, n2, nb, q⟩ := h
    refine ⟨_, (pss_cons (ps_for PassesOwn.never rfl (pi_range2 (by rfl) B.range (pa_cons pe_int (pa_cons (pe_op op_add (pe_callBfun cr_isqrt (by rfl) M_isqrt (pa_cons (pv 0) pa_nil)) pe_int) pa_nil))) (pg_name (i := 1) sc_is_prime.nd rfl (Or.inl rfl))
      (pss_one (ps_if (pt_cmpR op_eq (pe_op op_mod (pv 0) (pv 1)) pe_int (nomark _)) (pss_one (ps_ret pe_bl)) pss_nil)))
      (pss_one (ps_ret pe_bl))), ?_⟩
    refine at_st [some (.int n), none] rfl ?_
    walk_at "p0"
    refine r_isqrt (Nat.lt_of_le_of_lt nb (Nat.pow_lt_pow_right (by decide) (by decide))) fun r r1 r2 => ?_
    walk_at "pw"
    have rn : r ≤ n := Nat.le_trans (Nat.le_mul_self r) r1
    refine ⟨by omega, for_range (fun i σ H' => ∃ v : Option V, σ = [some (.int n), v] ∧ (∀ d, 2 ≤ d → d < 2 + i → ¬ d ∣ n) ∧ H' = H) ⟨none, rfl, fun d a b => absurd a (by omega), rfl⟩ ?_ ?_⟩
    · rintro i σ H1 hi ⟨v, rfl, hno, rfl⟩
      rw [show (2 : Int) + (i : Int) = ((2 + i : Nat) : Int) by omega]
      walk_at "pw"
      refine r_I (by omega) ?_
      walk_at "pw"
      rw [emod_nat]
      refine r_iteI (fun e => ?_) (fun e => ?_)
      · walk_at "pw"
        have hd : 2 + i ∣ n := Nat.dvd_of_mod_eq_zero (by omega)
        refine q false ⟨(fun z => nomatch z), fun hp => absurd hp (Pm.not_prime_of (by omega) ?_ hd)⟩
        refine Nat.le_trans (Nat.mul_le_mul (show 2 + i ≤ r by omega) (show 2 + i ≤ r by omega)) r1
      · walk_at "pw"
        refine ⟨_, rfl, fun d a b hd => ?_, rfl⟩
        rcases Nat.lt_or_ge d (2 + i) with z | z
        · exact hno d a z hd
        · have : d = 2 + i := by omega
          subst this
          exact e (by rw [Nat.mod_eq_zero_of_dvd hd]; rfl)
    · rintro σ H1 ⟨v, rfl, hno, rfl⟩
      walk_at "pw"
      refine q true ⟨fun _ => Pm.prime_of_trial n2 fun d a b => hno d a ?_, fun _ => rfl⟩
      have : d < r + 1 := Nat.lt_of_not_le fun h => absurd (Nat.mul_le_mul h h) (by omega)
      omega
theorem ok_next_prime (F : Pl K mg "next_prime" s_next_prime ["number"]) (D_is_prime : Def P w K mg base 1 "_is_prime" ["number"] spIsPrime) : Def P w K mg base 2 "next_prime" ["number"] spNextPrime := by
  refine F.ok sc_next_prime (fun vs H Q E h => ?_) (fun f cdv A outer s H vs Q E hr h => ?_)
  · obtain ⟨n, rfl, _⟩ := h
    rfl
  · obtain ⟨n, rfl, n2, nb, q⟩ := h
    refine ⟨_, (pss_cons (ps_set (i := 1) sc_next_prime.nd rfl (Or.inl rfl) (pe_op op_add (pv 0) pe_int))
      (pss_cons (ps_while PassesOwn.never (pt_not (pt_val (pe_df D_is_prime hr (by rfl) (pa_cons (pv 1) pa_nil)))) (pss_one (ps_aug (i := 1) sc_next_prime.nd rfl (Or.inl rfl) pe_int ip_add)))
      (pss_one (ps_ret (pv 1))))), ?_⟩
    refine at_st [some (.int n), none] rfl ?_
    walk_at "p0"
    refine r_whl (fun σ H' => ∃ k : Nat, σ = [some (.int n), some (.int k)] ∧ n < k ∧ k ≤ 211 ∧ (∀ q, Pm.Prime q → n < q → k ≤ q) ∧ H' = H) (fun σ _ => match σ with | [_, some (.int k)] => 211 - k.toNat | _ => 0)
      ⟨n + 1, by push_cast; rfl, by omega, by omega, fun q _ h => h, rfl⟩ ?_
    rintro σ H1 ⟨k, rfl, nk, k211, hmin, rfl⟩
    walk_at "pw"
    refine ⟨k, rfl, by omega, by omega, fun b hb => ?_⟩
    walk_at "pw"
    cases b with
    | true =>
      walk_at "pw"
      exact q k nk k211 (hb.mp rfl) hmin
    | false =>
      have hnp : ¬ Pm.Prime k := fun z => nomatch hb.mpr z
      have hk : k ≠ 211 := fun z => hnp (by rw [z]; exact prime211)
      walk_at "pw"
      refine whileGo fun N hN => ?_
      walk_at "pw"
      refine hN _ _ ⟨k + 1, by push_cast; rfl, by omega, by omega, fun p hp h => ?_, rfl⟩ ?_
      · have := hmin p hp h
        have : p ≠ k := fun z => hnp (z ▸ hp)
        omega
      · show 211 - ((k : Int) + 1).toNat < 211 - ((k : Nat) : Int).toNat
        omega
end
end K24

namespace K24
open PySem PySem.Spec PyProof.Rows L2 Pw SX TL
section
variable {P : Program} {w : World} {K : PySem.W.Frag} {mg : Str → Option Value} {base : Heap}
theorem ok_greatest_way (F : Pl K mg "greatest_way" s_greatest_way ["number"]) (D_root_of : Def P w K mg base 4 "root_of" ["number", "exponent"] spRootOf) (D_next_prime : Def P w K mg base 2 "next_prime" ["number"] spNextPrime) : Def P w K mg base 5 "greatest_way" ["number"] spGreatest := by
  refine F.ok sc_greatest_way (fun vs H Q E h => ?_) (fun f cdv A outer s H vs Q E hr h => ?_)
  · obtain ⟨n, rfl, _⟩ := h
    rfl
  · obtain ⟨n, rfl, nb, q⟩ := h
    refine ⟨_, (pss_cons (ps_if (pt_cmpR op_eq (pv 0) pe_int (nomark _)) (pss_one (ps_ret (pe_tup (pa_cons pe_int (pa_cons pe_int pa_nil))))) pss_nil)
      (pss_cons (ps_if (pt_cmpR op_eq (pv 0) pe_int (nomark _)) (pss_one (ps_ret (pe_tup (pa_cons pe_int (pa_cons pe_int pa_nil))))) pss_nil)
      (pss_cons (ps_set (i := 1) sc_greatest_way.nd rfl (Or.inl rfl) (pv 0))
      (pss_cons (ps_set (i := 2) sc_greatest_way.nd rfl (Or.inl rfl) pe_int)
      (pss_cons (ps_set (i := 3) sc_greatest_way.nd rfl (Or.inl rfl) pe_int)
      (pss_cons (ps_while PassesOwn.never (pt_cmpR op_lt (pv 3) (pe_bits (pv 1)) (nomark _)) (pss_cons (ps_asg (pe_df D_root_of hr (by rfl) (pa_cons (pv 1) (pa_cons (pv 3) pa_nil))) (pg_tup (by rfl) (pgs_cons (pg_name (i := 4) sc_greatest_way.nd rfl (Or.inl rfl)) (pgs_cons (pg_name (i := 5) sc_greatest_way.nd rfl (Or.inl rfl)) pgs_nil))))
      (pss_one (ps_if (pt_cmpR op_eq (pv 5) pe_int (nomark _)) (pss_cons (ps_set (i := 1) sc_greatest_way.nd rfl (Or.inl rfl) (pv 4))
      (pss_one (ps_set (i := 2) sc_greatest_way.nd rfl (Or.inl rfl) (pe_op op_mulX (pv 2) (pv 3))))) (pss_one (ps_set (i := 3) sc_greatest_way.nd rfl (Or.inl rfl) (pe_df D_next_prime hr (by rfl) (pa_cons (pv 3) pa_nil))))))))
      (pss_one (ps_ret (pe_tup (pa_cons (pv 1) (pa_cons (pv 2) pa_nil))))))))))), ?_⟩
    refine at_st [some (.int n), none, none, none, none, none] rfl ?_
    walk_at "p0"
    refine r_iteI (fun e => ?_) (fun n0 => ?_)
    · have : n = 0 := by omega
      subst this
      walk_at "pw"
      exact newT (by simp) fun p H1 np hp s1 => q 0 1 p H1 (.inl ⟨rfl, rfl, rfl⟩) np s1 hp
    walk_at "pw"
    refine r_iteI (fun e => ?_) (fun n1 => ?_)
    · have : n = 1 := by omega
      subst this
      walk_at "pw"
      exact newT (by simp) fun p H1 np hp s1 => q 1 2 p H1 (.inr (.inl ⟨rfl, rfl, rfl⟩)) np s1 hp
    walk_at "pw"
    refine r_whl (fun σ H' => ∃ (b g p : Nat) (v4 v5 : Option V), σ = [some (.int n), some (.int b), some (.int g), some (.int p), v4, v5] ∧ 2 ≤ b ∧ b ≤ n ∧ 1 ≤ g ∧ g ≤ 200 ∧ b ^ g = n ∧ Pm.Prime p ∧ p ≤ 211 ∧ (∀ q, Pm.Prime q → q < p → ∀ c, c ^ q ≠ b) ∧ Same H H')
      (fun σ _ => match σ with | [_, some (.int b), _, some (.int p), _, _] => b.toNat + (1000 - p.toNat) | _ => 0)
      ⟨n, 1, 2, none, none, rfl, by omega, Nat.le_refl _, Nat.le_refl _, by decide, Nat.pow_one n, prime2, by decide, fun q hq h => absurd hq.1 (by omega), Same.refl _⟩ ?_
    rintro σ H1 ⟨b, g, p, v4, v5, rfl, b2, bn, g1, g200, bg, hp, p211, hno, s1⟩
    have bb : b < 2 ^ 190 := Nat.lt_of_le_of_lt bn nb
    walk_at "pw"
    have hL1 := Pw.bits_lt b
    have hL2 := bits_le bb
    generalize Builtin.Int.intBits (b : Int) = L at *
    refine r_ite (fun hlt => ?_) (fun hge => ?_)
    · refine whileGo fun N hN => ?_
      walk_at "pw"
      refine ⟨b, p, rfl, by have := hp.1; omega, by omega, Nat.lt_trans bb (Nat.pow_lt_pow_right (by decide) (by decide)), fun r a H2 hr np s2 ha => ?_⟩
      refine r_gTup2 ha ?_
      walk_at "pw"
      have hr1 := hr.1
      refine r_iteI (fun e => ?_) (fun e => ?_)
      · have erp : r ^ p = b := by omega
        have r2 : 2 ≤ r := by
          refine Nat.le_of_not_lt fun z => ?_
          have : r = 0 ∨ r = 1 := by omega
          have hp2 := hp.1
          rcases this with rfl | rfl
          · rw [Nat.zero_pow (by omega)] at erp
            omega
          · rw [Nat.one_pow] at erp
            omega
        have hp2 := hp.1
        have rb : r < b := by
          rw [← erp]
          exact Nat.lt_of_lt_of_le (show r < r ^ 2 by rw [Nat.pow_two]; exact Nat.lt_mul_self_iff.mpr (by omega)) (Nat.pow_le_pow_right (by omega) hp2)
        have gp : r ^ (p * g) = n := by rw [Nat.pow_mul, erp, bg]
        have gp200 : p * g ≤ 200 := by
          refine Nat.le_of_not_lt fun z => ?_
          have h1 : 2 ^ (p * g) ≤ r ^ (p * g) := Nat.pow_le_pow_left r2 _
          have h3 : (2 : Nat) ^ 190 ≤ 2 ^ (p * g) := Nat.pow_le_pow_right (by decide) (by omega)
          omega
        walk_at "pw"
        refine r_I (mulx_nat 20 20 (by omega) (by omega) (by decide)) ?_
        walk_at "pw"
        refine hN _ _ ⟨r, g * p, p, _, _, by push_cast; rfl, r2, by omega, Nat.mul_pos g1 (by omega), by rw [Nat.mul_comm]; exact gp200, by rw [Nat.mul_comm]; exact gp, hp, p211, fun q hq hlt2 c e2 => ?_, s1.trans s2⟩ ?_
        · refine hno q hq hlt2 (c ^ p) ?_
          rw [← Nat.pow_mul, Nat.mul_comm, Nat.pow_mul, e2, erp]
        · show ((r : Nat) : Int).toNat + (1000 - ((p : Nat) : Int).toNat) < ((b : Nat) : Int).toNat + (1000 - ((p : Nat) : Int).toNat)
          omega
      · walk_at "pw"
        refine ⟨p, rfl, hp.1, by omega, fun p' pp' p'211 hp' hmin => ?_⟩
        walk_at "pw"
        refine hN _ _ ⟨b, g, p', _, _, rfl, b2, bn, g1, g200, bg, hp', p'211, fun q hq hlt2 c e2 => ?_, s1.trans s2⟩ ?_
        · rcases Nat.lt_trichotomy q p with z | z | z
          · exact hno q hq z c e2
          · subst z
            have hq2 := hq.1
            cases hr.uniq (show Pm.IsRoot b q c from ⟨by rw [e2]; exact Nat.le_refl _, by rw [← e2]; exact Pm.pow_lt_of_lt (Nat.lt_succ_self c) (by omega)⟩)
            exact e (by rw [e2]; omega)
          · have := hmin q hq z
            omega
        · show ((b : Nat) : Int).toNat + (1000 - ((p' : Nat) : Int).toNat) < ((b : Nat) : Int).toNat + (1000 - ((p : Nat) : Int).toNat)
          omega
    · walk_at "pw"
      refine newT (by simp) fun a H2 na ha s2 => ?_
      refine q b g a H2 (.inr (.inr ⟨b2, Pm.notPow_of_primes fun q hq c e => ?_, g1, bg⟩)) (s1.free na) (s1.trans s2) ha
      rcases Nat.lt_or_ge q p with z | z
      · exact hno q hq z c e
      · exact Pm.notPow_one_lt b2 (Nat.lt_of_lt_of_le hL1 (Nat.pow_le_pow_right (by decide) (by omega))) (by have := hq.1; omega) e
end
end K24

namespace K24
open PySem PySem.Spec PyProof.Rows L2 Pw SX TL
section
variable {P : Program} {w : World} {K : PySem.W.Frag} {mg : Str → Option Value} {base : Heap}
theorem ok_is_power (F : Pl K mg "is_power" s_is_power ["number"]) (D_greatest_way : Def P w K mg base 5 "greatest_way" ["number"] spGreatest) : Def P w K mg base 6 "is_power" ["number"] spIsPower := by
  refine F.ok sc_is_power (fun vs H Q E h => ?_) (fun f cdv A outer s H vs Q E hr h => ?_)
  · obtain ⟨n, rfl, _⟩ := h
    rfl
  · obtain ⟨n, rfl, nb, q⟩ := h
    refine ⟨_, (pss_one (ps_ret (pe_cmpR op_gt (pe_ix ix_tup (pe_df D_greatest_way hr (by rfl) (pa_cons (pv 0) pa_nil)) pe_int (fun _ _ => rfl)) pe_int (nomark _)))), ?_⟩
    refine at_st [some (.int n)] rfl ?_
    walk_at "p0"
    refine ⟨n, rfl, nb, fun b g p H1 hgw np s1 hp => ?_⟩
    walk_at "pw"
    have e : decide ((1 : Int) < (g : Int)) = decide (1 < g) := decide_eq_decide.mpr ⟨fun h => by omega, fun h => by omega⟩
    rw [e]
    exact q b g H1 hgw s1
end
end K24

namespace K24
open PySem PySem.Spec PyProof.Rows L2 Pw SX TL RZ PW2 Pt
theorem first_signs : ∀ k : Nat, [V.int 0, V.int 1] ++ List.replicate k (V.int 0) = ((List.range (k + 2)).map fun n => if n = 1 then (1 : Int) else 0).map V.int
  | 0 => rfl
  | k + 1 => by
    rw [List.replicate_succ', ← List.append_assoc, first_signs k, show k + 1 + 2 = k + 2 + 1 by omega, List.range_succ (n := k + 2), List.map_append, List.map_append]
    congr 1
theorem sg_at {f : Nat → Int} {L n : Nat} (h : n < L) : (((List.range L).map f).map V.int)[n]? = some (.int (f n)) := by
  rw [List.getElem?_map, List.getElem?_map, List.getElem?_range h]
  rfl
theorem sg_set {f : Nat → Int} {L m : Nat} {v : Int} : (((List.range L).map f).map V.int).set m (.int v) = ((List.range L).map fun n => if n = m then v else f n).map V.int := by
  refine List.ext_getElem? fun i => ?_
  rw [List.getElem?_set]
  by_cases h : i < L
  · rw [sg_at h, sg_at h]
    by_cases e : m = i
    · subst e
      rw [if_pos rfl, if_pos (by rw [List.length_map, List.length_map, List.length_range]; exact h), if_pos rfl]
    · rw [if_neg e, if_neg fun z => e z.symm]
  · have n1 : ∀ g : Nat → Int, (((List.range L).map g).map V.int)[i]? = none := fun g => List.getElem?_eq_none (by rw [List.length_map, List.length_map, List.length_range]; omega)
    rw [n1, n1]
    by_cases e : m = i
    · rw [if_pos e, if_neg (by rw [List.length_map, List.length_map, List.length_range]; omega)]
    · rw [if_neg e]
/-- what is left of a number's sign when the first k have gone -/
def part (k n : Nat) : Int := (if n = 1 then 1 else 0) - Pm.SI (fun d => if 1 ≤ d ∧ d < n ∧ d ∣ n then Pm.mu d else 0) (k + 1)
theorem part_0 (n : Nat) : part 0 n = if n = 1 then 1 else 0 := by
  unfold part
  rw [Pm.SI_succ, if_neg (show ¬ (1 ≤ 0 ∧ 0 < n ∧ 0 ∣ n) from fun z => absurd z.1 (by decide))]
  show _ - (0 + 0) = _
  omega
theorem part_succ (k n : Nat) : part (k + 1) n = part k n - (if k + 1 < n ∧ k + 1 ∣ n then Pm.mu (k + 1) else 0) := by
  unfold part
  rw [Pm.SI_succ _ (k + 1)]
  by_cases z : k + 1 < n ∧ k + 1 ∣ n
  · rw [if_pos (show 1 ≤ k + 1 ∧ k + 1 < n ∧ k + 1 ∣ n from ⟨by omega, z⟩), if_pos z]
    omega
  · rw [if_neg (show ¬ (1 ≤ k + 1 ∧ k + 1 < n ∧ k + 1 ∣ n) from fun w => z w.2), if_neg z]
    omega
theorem part_end {k n : Nat} (n1 : 1 ≤ n) (h : n ≤ k + 1) : part k n = Pm.mu n := by
  unfold part
  rw [Pm.mu_eq n, Pm.SI_ext (n := n) h fun i a b => if_neg (by omega)]
  congr 1
  refine Pm.SI_congr fun d hd => ?_
  by_cases z : 1 ≤ d ∧ d ∣ n
  · rw [if_pos z, if_pos ⟨z.1, hd, z.2⟩]
  · rw [if_neg z, if_neg fun w => z ⟨w.1, w.2.2⟩]
def spSigns : Sp := fun vs H Q _ => ∃ N : Nat, vs = [.int (N : Int)] ∧ N ≤ 100000 ∧ ∀ (p : Addr) (H' : Hp) (f : Nat → Int) (L : Nat), H p = none → Same H H' → H' p = some (.lst (((List.range L).map f).map V.int)) → N < L → (∀ n, 1 ≤ n → n ≤ N → f n = Pm.mu n) → Q (.ref p) H'
section
variable {P : Program} {w : World} {K : PySem.W.Frag} {mg : Str → Option Value} {base : Heap}
theorem ok_signs_to (F : Pl K mg "_signs_to" s_signs_to ["most"]) (B : Bl mg) : Def P w K mg base 1 "_signs_to" ["most"] spSigns := by
  refine F.ok sc_signs_to (fun vs H Q E h => ?_) (fun f cdv A outer s H vs Q E hr h => ?_)
  · obtain ⟨N, rfl, _⟩ := h
    rfl
  · obtain ⟨N, rfl, hN, q⟩ := h
    refine ⟨_, (pss_cons (ps_set (i := 1) sc_signs_to.nd rfl (Or.inl rfl) (pe_op op_cat (pe_lst (pa_cons pe_int (pa_cons pe_int pa_nil))) (pe_op op_rep (pe_lst (pa_cons pe_int pa_nil)) (pe_op op_sub (pv 0) pe_int))))
      (pss_cons (ps_for PassesOwn.never rfl (pi_range2 (by rfl) B.range (pa_cons pe_int (pa_cons (pe_op op_add (pv 0) pe_int) pa_nil))) (pg_name (i := 2) sc_signs_to.nd rfl (Or.inl rfl))
      (pss_cons (ps_set (i := 3) sc_signs_to.nd rfl (Or.inl rfl) (pe_ix ix_list (pv 1) (pv 2) (fun _ _ => rfl)))
      (pss_one (ps_if (pt_cmpR op_ne (pv 3) pe_int (nomark _)) (pss_one (ps_for PassesOwn.never rfl (pi_range3 (by rfl) B.range (pa_cons (pe_op op_mulX pe_int (pv 2)) (pa_cons (pe_op op_add (pv 0) pe_int) (pa_cons (pv 2) pa_nil)))) (pg_name (i := 4) sc_signs_to.nd rfl (Or.inl rfl))
      (pss_one (ps_augS (pv 1) (pv 4) get_listN (pv 3) ip_sub set_list)))) pss_nil))))
      (pss_one (ps_ret (pv 1))))), ?_⟩
    refine at_st [some (.int N), none, none, none, none] rfl ?_
    walk_at "p0"
    refine newL (by simp) fun l1 H1 nl1 hl1 s1 => ?_
    walk_at "pw"
    refine newL (by simp) fun l2 H2 nl2 hl2 s2 => ?_
    walk_at "pw"
    refine r_repZ hl2 (by omega) (by omega) (newC fun l3 H3 nl3 hl3 s3 => ?_)
    refine (show rCat _ _ _ _ from ⟨l1, l3, _, _, rfl, rfl, (s2.trans s3) _ _ hl1, hl3, by rw [List.length_replicate]; exact Nat.le_of_lt (few_line (show 2 + ((N : Int) - 1).toNat < 1000000 by omega)), fun p np => ?_⟩)
    have hp : (upd H3 p (.lst ([V.int 0, V.int 1] ++ List.replicate ((N : Int) - 1).toNat (V.int 0)))) p = some (.lst ([V.int 0, V.int 1] ++ List.replicate ((N : Int) - 1).toNat (V.int 0))) := upd_same
    have s4 : Same H3 (upd H3 p (.lst ([V.int 0, V.int 1] ++ List.replicate ((N : Int) - 1).toNat (V.int 0)))) := same_new np
    generalize upd H3 p (.lst ([V.int 0, V.int 1] ++ List.replicate ((N : Int) - 1).toNat (V.int 0))) = H4 at *
    have nH : H p = none := s1.free (s2.free (s3.free np))
    have sA := s1.trans (s2.trans (s3.trans s4))
    rw [first_signs] at hp
    obtain ⟨L, eL⟩ : ∃ L, L = ((N : Int) - 1).toNat + 2 := ⟨_, rfl⟩
    rw [← eL] at hp
    have NL : N < L := by omega
    have L1 : L ≤ 100002 := by omega
    walk_at "pw"
    refine ⟨⟨by decide, by decide, by omega, by omega⟩, for_range (fun i σ G => ∃ (f : Nat → Int) (v2 v3 v4 : Option V), σ = [some (.int N), some (.ref p), v2, v3, v4] ∧ G p = some (.lst (((List.range L).map f).map V.int)) ∧ (∀ n, 1 ≤ n → n ≤ N → f n = part i n) ∧ Same H G)
      ⟨_, none, none, none, rfl, hp, fun n n1 nN => (part_0 n).symm, sA⟩ ?_ ?_⟩
    · rintro i σ G hi ⟨f, v2, v3, v4, rfl, hG, hf, sG⟩
      obtain ⟨m, em⟩ : ∃ m, m = i + 1 := ⟨_, rfl⟩
      have mN : m ≤ N := by omega
      rw [show (1 : Int) + (i : Int) = (m : Int) by rw [em]; push_cast; omega]
      have fm : f m = Pm.mu m := by rw [hf m (by omega) mN, part_end (by omega) (by omega)]
      walk_at "pw"
      refine r_ixL (SqL.of hG) (i := (m : Int)) (v := .int (f m)) (atI_nat (sg_at (by omega))) ?_
      walk_at "pw"
      refine r_iteNI (fun z => ?_) (fun z => ?_)
      · walk_at "pw"
        refine r_I (mulx_nat (n := 2) 20 20 (by decide) (by omega) (by decide)) ?_
        rw [show (2 : Int) * (m : Int) = ((2 * m : Nat) : Int) by push_cast; rfl]
        walk_at "pw"
        rw [show (N : Int) + 1 = ((N + 1 : Nat) : Int) by push_cast; rfl]
        have rg := RgC.up (a := 2 * m) (b := N + 1) (c := m) (by omega) (by omega) (by omega) (by omega)
        rw [rg_mult (by omega) mN] at rg
        refine ⟨_, _, _, _, rfl, rg, for_rangeC (fun j σ G' => ∃ (f' : Nat → Int) (v4 : Option V), σ = [some (.int N), some (.ref p), some (.int (m : Int)), some (.int (f m)), v4] ∧ G' p = some (.lst (((List.range L).map f').map V.int)) ∧ (∀ n, 1 ≤ n → n ≤ N → f' n = part i n - (if m < n ∧ m ∣ n ∧ n < 2 * m + j * m then Pm.mu m else 0)) ∧ Same H G')
          ⟨f, _, rfl, hG, fun n n1 nN => by
            rw [if_neg fun w => by
              obtain ⟨c, rfl⟩ := w.2.1
              have h1 : m * c < m * 2 := by omega
              have h2 : m * 1 < m * c := by omega
              have := Nat.lt_of_mul_lt_mul_left h1
              have := Nat.lt_of_mul_lt_mul_left h2
              omega, hf n n1 nN]
            omega, sG⟩ ?_ ?_⟩
        · rintro j σ G' hj ⟨f', v4, rfl, hG', hf', sG'⟩
          have hle : 2 * m + j * m ≤ N := by
            have h1 : (j + 2) * m ≤ N / m * m := Nat.mul_le_mul_right _ (by omega)
            have h2 := Nat.div_mul_le_self N m
            rw [Nat.add_mul] at h1
            omega
          obtain ⟨t, et⟩ : ∃ t, t = 2 * m + j * m := ⟨_, rfl⟩
          rw [← et] at hle
          rw [show ((2 * m : Nat) : Int) + (j : Int) * (m : Int) = (t : Int) by rw [et]; push_cast; rfl]
          walk_at "pw"
          refine r_augSL ?_
          walk_at "pw"
          refine ⟨p, _, t, _, rfl, rfl, SqL.of hG', sg_at (by omega), by omega, ?_⟩
          walk_at "pw"
          refine r_setLx _ hG' (jx := t) ?_ sg_set fun G2 hG2 k2 => ?_
          · unfold ixN
            rw [if_pos (by omega), if_pos (by rw [List.length_map, List.length_map, List.length_range]; omega), Int.toNat_natCast]
          refine ⟨_, _, rfl, hG2, fun n n1 nN => ?_, fun b o e => k2 b o (ne_of_none e nH) (sG' b o e)⟩
          by_cases en : n = t
          · rw [if_pos en, hf' t (by omega) hle, fm, if_neg (by omega), if_pos ⟨by omega, by rw [en, et]; exact ⟨2 + j, by rw [Nat.mul_add, Nat.mul_comm m 2, Nat.mul_comm m j]⟩, by rw [Nat.add_mul]; omega⟩, en]
            omega
          · rw [if_neg en, hf' n n1 nN]
            congr 1
            have iff : (m < n ∧ m ∣ n ∧ n < 2 * m + j * m) ↔ (m < n ∧ m ∣ n ∧ n < 2 * m + (j + 1) * m) := by
              rw [Nat.add_mul, Nat.one_mul]
              constructor
              · rintro ⟨a, b, c⟩
                exact ⟨a, b, by omega⟩
              · rintro ⟨a, b, c⟩
                refine ⟨a, b, Nat.lt_of_le_of_ne (Nat.le_of_not_lt fun w => ?_) fun w => en (by rw [et]; exact w)⟩
                obtain ⟨d, rfl⟩ := b
                have h1 : m * (2 + j) < m * d := by rw [Nat.mul_add, Nat.mul_comm m 2, Nat.mul_comm m j]; omega
                have h2 : m * d < m * (2 + j + 1) := by rw [Nat.mul_add, Nat.mul_add, Nat.mul_comm m 2, Nat.mul_comm m j]; omega
                have := Nat.lt_of_mul_lt_mul_left h1
                have := Nat.lt_of_mul_lt_mul_left h2
                omega
            by_cases c : m < n ∧ m ∣ n ∧ n < 2 * m + j * m
            · rw [if_pos c, if_pos (iff.mp c)]
            · rw [if_neg c, if_neg fun w => c (iff.mpr w)]
        · rintro σ G' ⟨f', v4, rfl, hG', hf', sG'⟩
          refine ⟨f', _, _, _, rfl, hG', fun n n1 nN => ?_, sG'⟩
          rw [hf' n n1 nN, part_succ, ← em]
          congr 1
          by_cases c : m < n ∧ m ∣ n
          · have h1 : n < (N / m + 1) * m := by
              have := Nat.lt_div_mul_add (a := N) (show 0 < m by omega)
              rw [Nat.add_mul, Nat.one_mul]
              omega
            have h2 : 1 ≤ N / m := (Nat.le_div_iff_mul_le (by omega)).mpr (by omega)
            have h3 : 2 * m + (N / m - 1) * m = (N / m + 1) * m := by rw [← Nat.add_mul]; congr 1; omega
            rw [if_pos c, if_pos (show m < n ∧ m ∣ n ∧ n < 2 * m + (N / m - 1) * m from ⟨c.1, c.2, by rw [h3]; exact h1⟩)]
          · rw [if_neg c, if_neg fun w => c ⟨w.1, w.2.1⟩]
      · walk_at "pw"
        refine ⟨f, _, _, _, rfl, hG, fun n n1 nN => ?_, sG⟩
        rw [hf n n1 nN, part_succ, ← em]
        have e0 : Pm.mu m = 0 := by rw [← fm]; exact z
        rw [e0]
        split <;> omega
    · rintro σ G ⟨f, v2, v3, v4, rfl, hG, hf, sG⟩
      walk_at "pw"
      refine q p G f L nH sG hG NL fun n n1 nN => ?_
      rw [hf n n1 nN, show ((N : Int) + 1 - 1).toNat = N by omega, part_end n1 (by omega)]
end
end K24

namespace K24
open PySem PySem.Spec PyProof.Rows L2 Pw SX TL RZ PW2 Pt
def spCountF : Sp := fun vs H Q _ => ∃ n : Nat, vs = [.int (n : Int)] ∧ n ≤ 1000000000000 ∧ ∀ H', Same H H' → Q (.int (Pm.cntF n : Nat)) H'
def spNextS : Sp := fun vs H Q _ => ∃ n f : Nat, vs = [.int (n : Int), .int (f : Int)] ∧ n ≤ 1000000000000 ∧ 1 ≤ f ∧ f ≤ 2000000000000 ∧ ∀ v : Nat, Pm.NextS n f v → Q (.int (v : Int)) H
def spNextF : Sp := fun vs H Q _ => ∃ n : Nat, vs = [.int (n : Int)] ∧ n ≤ 1000000000000 ∧ ∀ (v : Nat) (H' : Hp), Pm.NextF n v → Same H H' → Q (.int (v : Int)) H'
theorem cube_le {n r b : Nat} (hr : Pm.IsRoot n 3 r) (h : b ≤ r) : b * b * b ≤ n := by
  have h1 := Nat.pow_le_pow_left h 3
  have e3 : b ^ 3 = b * b * b := by rw [Nat.pow_succ, Nat.pow_two]
  have := hr.1
  omega
theorem root_1e4 {n r : Nat} (hr : Pm.IsRoot n 3 r) (hn : n ≤ 1000000000000) : r ≤ 10000 := Nat.le_of_not_lt fun z => by
  have h1 := Nat.pow_le_pow_left (show 10001 ≤ r from z) 3
  have := hr.1
  omega
section
variable {P : Program} {w : World} {K : PySem.W.Frag} {mg : Str → Option Value} {base : Heap}
theorem ok_is_full (F : Pl K mg "is_full" s_is_full ["number"]) (B : Bl mg) (M_all : mg "all" = none) (D_parted : Def P w K mg base 5 "parted" ["number", "many"] spParted) (D_is_power : Def P w K mg base 6 "is_power" ["number"] spIsPower) : Def P w K mg base 7 "is_full" ["number"] spIsFull := by
  refine F.ok sc_is_full (fun vs H Q E h => ?_) (fun f cdv A outer s H vs Q E hr h => ?_)
  · obtain ⟨n, rfl, _⟩ := h
    rfl
  · obtain ⟨n, rfl, n1, nb, q⟩ := h
    refine ⟨_, (pss_cons (ps_asg (pe_df D_parted hr (by rfl) (pa_cons (pv 0) (pa_cons pe_int pa_nil))) (pg_tup (by rfl) (pgs_cons (pg_name (i := 1) sc_is_full.nd rfl (Or.inl rfl)) (pgs_cons (pg_name (i := 2) sc_is_full.nd rfl (Or.inl rfl)) pgs_nil))))
      (pss_one (ps_ret (pe_and (pe_callB (cr_all rfl) (by rfl) M_all (by decide +kernel) (pa_cons (pe_lc (own := [("_", 3), ("times", 4)]) (by rfl) sc_is_full.nd (pi_list (pv 1)) (blkOk_by (own := [("_", 3), ("times", 4)]) (N := ["number", "pairs", "left", "_", "times"]) (sc := defScope s_is_full) (by decide +kernel)) (fun _ _ _ _ _ => (pg_tupB (n := 2) (by rfl) (pgs_cons (pg_name (i := 3) sc_is_full.nd rfl (Or.inl rfl)) (pgs_cons (pg_name (i := 4) sc_is_full.nd rfl (Or.inl rfl)) pgs_nil)))) (fun _ _ _ _ _ => pts_nil) (fun _ _ _ _ _ => (pe_cmpR op_gt (pv 4) pe_int (nomark _)))) pa_nil)) (pe_one (pe_df D_is_power hr (by rfl) (pa_cons (pv 2) pa_nil))))))), ?_⟩
    refine at_st [some (.int n), none, none, none, none] rfl ?_
    walk_at "p0"
    refine ⟨n, 5, rfl, n1, nb, by decide, by decide, fun L l D p a ps H1 hP np na npa s1 hp ha hps => ?_⟩
    have key := Pm.full_parted hP n1
    have ll := hP.len nb
    have ln : l ≤ n := by
      have h1 := hP.small
      have h2 : 1 * l ≤ 2 ^ L.length * l := Nat.mul_le_mul_right _ (Nat.pow_pos (by decide))
      omega
    walk_at "pw"
    refine r_gTup2 hp ?_
    walk_at "pw"
    refine r_exL (SqL.of ha) ?_
    intro C nC
    refine lc_list (xs := ps.map V.ref) (fun i G => MapAt H1 C (L.map fun w => V.bl (decide (1 < w.2))) i G) (MapAt.new nC) (fun i G _ hG => SqL.of (hG.2 _ _ ha)) ?_ ?_
    · rintro i x G hx hG
      rw [List.getElem?_map, Option.map_eq_some_iff] at hx
      obtain ⟨b, hb, rfl⟩ := hx
      have il : i < L.length := by
        rw [← hps.1]
        exact (List.getElem?_eq_some_iff.mp hb).1
      have hzi : L[i]? = some L[i] := List.getElem?_eq_getElem il
      have hbG := hG.2 _ _ (hps.2 i b _ hb hzi)
      refine r_gTup2 hbG ?_
      walk_at "pw"
      refine ⟨rfl, ?_⟩
      walk_at "pw"
      refine hG.push (fun _ _ h => h) nC ?_ (by rw [List.length_map]; omega)
      rw [List.getElem?_map, hzi]
      show some (V.bl (decide (1 < L[i].2))) = some (V.bl (decide (((L[i].2 : Nat) : Int) > 1)))
      congr 2
      exact decide_eq_decide.mpr (by omega)
    · intro G hG
      have hG' : MapAt H1 C (L.map fun w => V.bl (decide (1 < w.2))) (L.map fun w => V.bl (decide (1 < w.2))).length G := by
        rw [List.length_map]
        rw [List.length_map, hps.1] at hG
        exact hG
      obtain ⟨hC, sC⟩ := hG'.done
      walk_at "pw"
      refine r_all (bs := L.map fun w => decide (1 < w.2)) (SqL.of (by rw [List.map_map]; exact hC)) ?_
      have hall : (L.map fun w => decide (1 < w.2)).all id = true ↔ ∀ w ∈ L, 1 < w.2 := by
        rw [List.all_map, List.all_eq_true]
        exact ⟨fun h w hw => by simpa using h w hw, fun h w hw => by simpa using h w hw⟩
      walk_at "pw"
      cases hb : (L.map fun w => decide (1 < w.2)).all id with
      | false =>
        rw [if_neg (by decide)]
        have : fullB n = false := Bool.eq_false_iff.mpr fun z => by
          rw [fullB_iff, ← key] at z
          rw [hall.mpr z.1] at hb
          cases hb
        rw [← this]
        exact q G (s1.trans sC)
      | true =>
        rw [if_pos rfl]
        walk_at "pw"
        refine ⟨l, rfl, Nat.lt_trans (Nat.lt_of_le_of_lt ln nb) (Nat.pow_lt_pow_right (by decide) (by decide)), fun b g H2 hg s2 => ?_⟩
        have : decide (1 < g) = fullB n := by
          rw [Bool.eq_iff_iff, decide_eq_true_iff, fullB_iff, ← key, ← gwp_iff hg]
          exact ⟨fun z => ⟨hall.mp hb, z.2⟩, fun z => ⟨hP.pt.l1, z.2⟩⟩
        rw [this]
        exact q H2 (s1.trans (sC.trans s2))
theorem ok_count_full (F : Pl K mg "count_full" s_count_full ["most"]) (B : Bl mg) (M_isqrt : mg "isqrt" = some (.builtin "math.isqrt")) (D_root_of : Def P w K mg base 4 "root_of" ["number", "exponent"] spRootOf) (D_signs_to : Def P w K mg base 1 "_signs_to" ["most"] spSigns) : Def P w K mg base 5 "count_full" ["most"] spCountF := by
  refine F.ok sc_count_full (fun vs H Q E h => ?_) (fun f cdv A outer s H vs Q E hr h => ?_)
  · obtain ⟨n, rfl, _⟩ := h
    rfl
  · obtain ⟨n, rfl, hn, q⟩ := h
    refine ⟨_, (pss_cons (ps_asg (pe_df D_root_of hr (by rfl) (pa_cons (pv 0) (pa_cons pe_int pa_nil))) (pg_tup (by rfl) (pgs_cons (pg_name (i := 1) sc_count_full.nd rfl (Or.inl rfl)) (pgs_cons (pg_name (i := 2) sc_count_full.nd rfl (Or.inl rfl)) pgs_nil))))
      (pss_cons (ps_set (i := 3) sc_count_full.nd rfl (Or.inr rfl) (pe_df D_signs_to hr (by rfl) (pa_cons (pv 1) pa_nil)))
      (pss_one (ps_ret (pe_callB (cr_sum rfl) (by rfl) B.sum (by decide +kernel) (pa_cons (pe_lc (own := [("base", 4)]) (by rfl) sc_count_full.nd (pi_range2 (by rfl) B.range (pa_cons pe_int (pa_cons (pe_op op_add (pv 1) pe_int) pa_nil))) (blkOk_by (own := [("base", 4)]) (N := ["most", "root", "_", "signs", "base"]) (sc := defScope s_count_full) (by decide +kernel)) (fun _ _ _ _ _ => (pg_name (i := 4) sc_count_full.nd rfl (Or.inl rfl))) (fun _ _ _ _ _ => (pts_one (pt_cmpR op_ne (pe_ix (r := rIxL K) ix_list (pv 3) (pv 4) (fun _ _ => rfl)) pe_int (nomark _)))) (fun _ _ _ _ _ => (pe_callBfun cr_isqrt (by rfl) M_isqrt (pa_cons (pe_op op_fdivW (pv 0) (pe_op op_pow (pv 4) pe_int)) pa_nil)))) pa_nil)))))), ?_⟩
    refine at_st [some (.int n), none, none, none, none] rfl ?_
    walk_at "p0"
    refine ⟨n, 3, rfl, by decide, by decide, Nat.lt_of_le_of_lt hn (by decide +kernel), fun r p H1 hr3 np s1 hp => ?_⟩
    have r4 := root_1e4 hr3 hn
    refine r_gTup2 hp ?_
    walk_at "pw"
    refine ⟨r, rfl, by omega, fun p2 H2 fs L np2 s2 hp2 rL hfs => ?_⟩
    walk_at "pw"
    refine ⟨⟨by decide, by decide, by omega, by omega⟩, ?_⟩
    intro C nC
    have R_is : ∀ b, Pm.IsRoot (n / (b * b * b)) 2 (Pm.Rt (n / (b * b * b)) 2) := fun b => Pm.Rt_is (by decide)
    refine lc_range (fun i G => (∃ zs : List Nat, G C = some (.lst (nn zs)) ∧ zs.length ≤ i ∧ zs.sum = Pm.S (fun b => if 1 ≤ b ∧ Pm.mu b ≠ 0 then Pm.Rt (n / (b * b * b)) 2 else 0) (i + 1)) ∧ Same H2 G) ⟨⟨[], upd_same, Nat.le_refl _, ?_⟩, same_new nC⟩ ?_ ?_
    · show 0 = 0 + (if 1 ≤ 0 ∧ Pm.mu 0 ≠ 0 then _ else 0)
      rw [if_neg fun z => absurd z.1 (by decide)]
      rfl
    · rintro i G hi ⟨⟨zs, hC, lz, hs⟩, sG⟩
      obtain ⟨b, eb⟩ : ∃ b, b = i + 1 := ⟨_, rfl⟩
      have br : b ≤ r := by omega
      have b3 := cube_le hr3 br
      have b31 : 1 ≤ b * b * b := Nat.mul_pos (Nat.mul_pos (by omega) (by omega)) (by omega)
      rw [show (1 : Int) + (i : Int) = (b : Int) by rw [eb]; push_cast; omega]
      have hsum : ∀ x, (Pm.S (fun b => if 1 ≤ b ∧ Pm.mu b ≠ 0 then Pm.Rt (n / (b * b * b)) 2 else 0) (i + 1 + 1)) = x ↔ Pm.S (fun b => if 1 ≤ b ∧ Pm.mu b ≠ 0 then Pm.Rt (n / (b * b * b)) 2 else 0) (i + 1) + (if 1 ≤ b ∧ Pm.mu b ≠ 0 then Pm.Rt (n / (b * b * b)) 2 else 0) = x := fun x => by rw [eb]; exact Iff.rfl
      walk_at "pw"
      refine ⟨rfl, ?_⟩
      walk_at "pw"
      refine r_ixL (SqL.of (sG _ _ hp2)) (i := (b : Int)) (v := .int (fs b)) (atI_nat (sg_at (by omega))) ?_
      rw [hfs b (by omega) br]
      walk_at "pw"
      refine r_iteNI (fun z => ?_) (fun z => ?_)
      · walk_at "pw"
        refine r_I (show CPow (b : Int) 3 from ⟨by decide, by decide, by omega⟩) ?_
        rw [show (b : Int) ^ Int.toNat 3 = ((b * b * b : Nat) : Int) by
          show (b : Int) ^ 3 = _
          rw [show ((b * b * b : Nat) : Int) = (b : Int) * b * b by push_cast; rfl]
          simp only [Int.pow_succ, Int.pow_zero, Int.one_mul]]
        walk_at "pw"
        refine r_I (wide_div (b := 60) (by omega) (by omega) (by decide) (by decide)) ?_
        walk_at "pw"
        rw [show (n : Int) / ((b * b * b : Nat) : Int) = ((n / (b * b * b) : Nat) : Int) from (Int.natCast_ediv _ _).symm]
        have nd : n / (b * b * b) ≤ n := Nat.div_le_self _ _
        refine r_isqrt (Nat.lt_of_le_of_lt (Nat.le_trans nd hn) (by decide +kernel)) fun x x1 x2 => ?_
        have ex : Pm.Rt (n / (b * b * b)) 2 = x := Pm.Rt_eq (by decide) ⟨by rw [Nat.pow_two]; exact x1, by rw [Nat.pow_two]; exact x2⟩
        refine ⟨_, hC, few_line (by rw [nn_len]; omega), ⟨zs ++ [x], by rw [upd_same, nn_push], by rw [List.length_append]; simp; omega, ?_⟩, same_updNew sG nC⟩
        rw [List.sum_append, hs]
        refine ((hsum _).mpr ?_).symm
        rw [if_pos ⟨by omega, z⟩, ex]
        simp
      · refine ⟨⟨zs, hC, by omega, ?_⟩, sG⟩
        rw [hs]
        refine ((hsum _).mpr ?_).symm
        rw [if_neg fun y => y.2 z]
        rfl
    · rintro G ⟨⟨zs, hC, lz, hs⟩, sG⟩
      walk_at "pw"
      refine r_sum (SqL.of hC) ?_
      rw [nn_sum, hs, show ((r : Int) + 1 - 1).toNat = r by omega, Pm.full_count hr3 (fun b => Pm.Rt (n / (b * b * b)) 2) fun b _ _ => ⟨by have := (R_is b).1; rwa [Nat.pow_two] at this, by have := (R_is b).2; rwa [Nat.pow_two] at this⟩]
      exact q G (s1.trans (s2.trans sG))
theorem ok_next_square_times (F : Pl K mg "_next_square_times" s_next_square_times ["number", "factor"]) (M_isqrt : mg "isqrt" = some (.builtin "math.isqrt")) : Def P w K mg base 1 "_next_square_times" ["number", "factor"] spNextS := by
  refine F.ok sc_next_square_times (fun vs H Q E h => ?_) (fun f cdv A outer s H vs Q E hr h => ?_)
  · obtain ⟨n, f, rfl, _⟩ := h
    rfl
  · obtain ⟨n, f, rfl, hn, f1, fb, q⟩ := h
    refine ⟨_, (pss_one (ps_ret (pe_op op_mulX (pe_op op_pow (pe_op op_add (pe_callBfun cr_isqrt (by rfl) M_isqrt (pa_cons (pe_op op_fdivW (pv 0) (pv 1)) pa_nil)) pe_int) pe_int) (pv 1)))), ?_⟩
    refine at_st [some (.int n), some (.int f)] rfl ?_
    walk_at "p0"
    refine r_I (wide_div (b := 60) (by omega) (by omega) (by decide) (by decide)) ?_
    walk_at "pw"
    rw [show (n : Int) / (f : Int) = ((n / f : Nat) : Int) from (Int.natCast_ediv _ _).symm]
    have nd : n / f ≤ n := Nat.div_le_self _ _
    refine r_isqrt (Nat.lt_of_le_of_lt (Nat.le_trans nd hn) (by decide +kernel)) fun x x1 x2 => ?_
    have x6 : x ≤ 1000000 := Nat.le_of_not_lt fun z => by
      have := Nat.mul_le_mul (show 1000001 ≤ x from z) (show 1000001 ≤ x from z)
      omega
    walk_at "pw"
    refine r_I (show CPow ((x : Int) + 1) 2 from ⟨by decide, by decide, by omega⟩) ?_
    rw [show ((x : Int) + 1) ^ Int.toNat 2 = (((x + 1) * (x + 1) : Nat) : Int) by
      show ((x : Int) + 1) ^ 2 = _
      rw [show (((x + 1) * (x + 1) : Nat) : Int) = ((x : Int) + 1) * ((x : Int) + 1) by push_cast; rfl]
      simp only [Int.pow_succ, Int.pow_zero, Int.one_mul]]
    have xx : (x + 1) * (x + 1) ≤ 1000001 * 1000001 := Nat.mul_le_mul (by omega) (by omega)
    walk_at "pw"
    refine r_I (mulx_nat 50 50 (by omega) (by omega) (by decide)) ?_
    rw [← Int.natCast_mul]
    exact q _ ⟨x, x1, x2, rfl⟩
theorem ok_next_full (F : Pl K mg "next_full" s_next_full ["number"]) (B : Bl mg) (D_root_of : Def P w K mg base 4 "root_of" ["number", "exponent"] spRootOf) (D_next_square_times : Def P w K mg base 1 "_next_square_times" ["number", "factor"] spNextS) : Def P w K mg base 5 "next_full" ["number"] spNextF := by
  refine F.ok sc_next_full (fun vs H Q E h => ?_) (fun f cdv A outer s H vs Q E hr h => ?_)
  · obtain ⟨n, rfl, _⟩ := h
    rfl
  · obtain ⟨n, rfl, hn, q⟩ := h
    refine ⟨_, (pss_cons (ps_asg (pe_df D_root_of hr (by rfl) (pa_cons (pv 0) (pa_cons pe_int pa_nil))) (pg_tup (by rfl) (pgs_cons (pg_name (i := 1) sc_next_full.nd rfl (Or.inl rfl)) (pgs_cons (pg_name (i := 2) sc_next_full.nd rfl (Or.inl rfl)) pgs_nil))))
      (pss_one (ps_ret (pe_callB (cr_min rfl) (by rfl) B.min (by decide +kernel) (pa_cons (pe_lc (own := [("base", 3)]) (by rfl) sc_next_full.nd (pi_range2 (by rfl) B.range (pa_cons pe_int (pa_cons (pe_op op_add (pv 1) pe_int) pa_nil))) (blkOk_by (own := [("base", 3)]) (N := ["number", "root", "_", "base"]) (sc := defScope s_next_full) (by decide +kernel)) (fun _ _ _ _ _ => (pg_name (i := 3) sc_next_full.nd rfl (Or.inl rfl))) (fun _ _ _ _ _ => pts_nil) (fun _ _ _ _ _ => (pe_df D_next_square_times hr (by rfl) (pa_cons (pv 0) (pa_cons (pe_op op_pow (pv 3) pe_int) pa_nil))))) pa_nil))))), ?_⟩
    refine at_st [some (.int n), none, none, none] rfl ?_
    walk_at "p0"
    refine ⟨n, 3, rfl, by decide, by decide, Nat.lt_of_le_of_lt hn (by decide +kernel), fun r p H1 hr3 np s1 hp => ?_⟩
    have r4 := root_1e4 hr3 hn
    refine r_gTup2 hp ?_
    walk_at "pw"
    refine ⟨⟨by decide, by decide, by omega, by omega⟩, ?_⟩
    intro C nC
    have V_ex : ∀ b, ∃ v, Pm.NextS n (b * b * b) v := fun b => by
      obtain ⟨s, h1, h2⟩ := Pm.root_ex 2 (by decide) (n / (b * b * b))
      rw [Nat.pow_two] at h1 h2
      exact ⟨_, s, h1, h2, rfl⟩
    obtain ⟨V, hV⟩ : ∃ V : Nat → Nat, ∀ b, Pm.NextS n (b * b * b) (V b) := ⟨fun b => (V_ex b).choose, fun b => (V_ex b).choose_spec⟩
    have NS_uniq : ∀ {f v v' : Nat}, Pm.NextS n f v → Pm.NextS n f v' → v = v' := fun {f v v'} ⟨s, a, b, e⟩ ⟨s', a', b', e'⟩ => by
      have : s = s' := by
        rcases Nat.lt_trichotomy s s' with z | z | z
        · have := Nat.mul_le_mul (show s + 1 ≤ s' from z) (show s + 1 ≤ s' from z)
          omega
        · exact z
        · have := Nat.mul_le_mul (show s' + 1 ≤ s from z) (show s' + 1 ≤ s from z)
          omega
      rw [e, e', this]
    refine lc_range (fun i G => G C = some (.lst (nn ((List.range i).map fun j => V (1 + j)))) ∧ Same H1 G) ⟨upd_same, same_new nC⟩ ?_ ?_
    · rintro i G hi ⟨hC, sG⟩
      obtain ⟨b, eb⟩ : ∃ b, b = 1 + i := ⟨_, rfl⟩
      have br : b ≤ r + 1 := by omega
      have b31 : 1 ≤ b * b * b := Nat.mul_pos (Nat.mul_pos (by omega) (by omega)) (by omega)
      have b33 : b * b * b ≤ 10001 * 10001 * 10001 := Nat.mul_le_mul (Nat.mul_le_mul (by omega) (by omega)) (by omega)
      rw [show (1 : Int) + (i : Int) = (b : Int) by rw [eb]; push_cast; rfl]
      walk_at "pw"
      refine ⟨rfl, ?_⟩
      walk_at "pw"
      refine r_I (show CPow (b : Int) 3 from ⟨by decide, by decide, by omega⟩) ?_
      rw [show (b : Int) ^ Int.toNat 3 = ((b * b * b : Nat) : Int) by
        show (b : Int) ^ 3 = _
        rw [show ((b * b * b : Nat) : Int) = (b : Int) * b * b by push_cast; rfl]
        simp only [Int.pow_succ, Int.pow_zero, Int.one_mul]]
      walk_at "pw"
      refine ⟨n, b * b * b, rfl, hn, b31, by omega, fun v hv => ?_⟩
      refine ⟨_, hC, few_line (by rw [nn_len, List.length_map, List.length_range]; omega), ?_, same_updNew sG nC⟩
      rw [upd_same, List.range_succ, List.map_append, nn_push]
      have : v = V (1 + i) := by rw [← eb]; exact NS_uniq hv (hV b)
      rw [this]
      rfl
    · rintro G ⟨hC, sG⟩
      rw [show ((r : Int) + 2 - 1).toNat = r + 1 by omega] at hC
      walk_at "pw"
      refine r_min (SqL.of hC) (by rw [List.length_map, List.length_map, List.length_range]; omega) fun mm hmm hmin => ?_
      obtain ⟨mv, hmv, rfl⟩ := List.mem_map.mp hmm
      obtain ⟨j, hj, ej⟩ := List.mem_map.mp hmv
      have hj := List.mem_range.mp hj
      refine q mv G (Pm.next_full hr3 V (fun b _ _ => hV b) ⟨1 + j, by omega, by omega, ej.symm⟩ fun b b1 br => ?_) (s1.trans sG)
      have := hmin _ (List.mem_map.mpr ⟨V b, List.mem_map.mpr ⟨b - 1, List.mem_range.mpr (by omega), by rw [show 1 + (b - 1) = b by omega]⟩, rfl⟩)
      omega
end
end K24

namespace K24
open PySem PySem.Spec PyProof.Rows L2 Pw SX TL RZ PW2 Pt
def spGreat : Sp := fun vs H Q _ => ∃ n e : Nat, vs = [.int (n : Int), .int (e : Int)] ∧ 1 ≤ n ∧ n < 2 ^ 60 ∧ 2 ≤ e ∧ e ≤ 200 ∧ ∀ (g : Nat) (H' : Hp), Pm.Great n e g → Same H H' → Q (.int (g : Int)) H'
def spCountFr : Sp := fun vs H Q _ => ∃ n e : Nat, vs = [.int (n : Int), .int (e : Int)] ∧ n ≤ 1000000000 ∧ 2 ≤ e ∧ e ≤ 200 ∧ ∀ H', Same H H' → Q (.int (Pm.cntFr n e : Nat)) H'
theorem root_1e5 {n e r : Nat} (hr : Pm.IsRoot n e r) (e2 : 2 ≤ e) (hn : n ≤ 1000000000) : r ≤ 31623 := Nat.le_of_not_lt fun z => by
  have h1 : r ^ 2 ≤ r ^ e := Nat.pow_le_pow_right (by omega) e2
  have h2 := Nat.pow_le_pow_left (show 31624 ≤ r from z) 2
  have := hr.1
  omega
section
variable {P : Program} {w : World} {K : PySem.W.Frag} {mg : Str → Option Value} {base : Heap}
theorem ok_greatest_in (F : Pl K mg "greatest_in" s_greatest_in ["number", "exponent"]) (D_parted : Def P w K mg base 5 "parted" ["number", "many"] spParted) (D_taken : Def P w K mg base 1 "taken" ["base", "exponent"] spTaken) (D_root_of : Def P w K mg base 4 "root_of" ["number", "exponent"] spRootOf) :
    Def P w K mg base 6 "greatest_in" ["number", "exponent"] spGreat := by
  refine F.ok sc_greatest_in (fun vs H Q E h => ?_) (fun f cdv A outer s H vs Q E hr h => ?_)
  · obtain ⟨n, e, rfl, _⟩ := h
    rfl
  · obtain ⟨n, e, rfl, n1, nb, e2, eb, q⟩ := h
    refine ⟨_, (pss_cons (ps_asg (pe_df D_parted hr (by rfl) (pa_cons (pv 0) (pa_cons (pe_op op_add (pv 1) pe_int) pa_nil))) (pg_tup (by rfl) (pgs_cons (pg_name (i := 2) sc_greatest_in.nd rfl (Or.inl rfl)) (pgs_cons (pg_name (i := 3) sc_greatest_in.nd rfl (Or.inl rfl)) pgs_nil))))
      (pss_cons (ps_set (i := 4) sc_greatest_in.nd rfl (Or.inl rfl) pe_int)
      (pss_cons (ps_for PassesOwn.never rfl (pi_list (pv 2)) (pg_tup (by rfl) (pgs_cons (pg_name (i := 5) sc_greatest_in.nd rfl (Or.inl rfl)) (pgs_cons (pg_name (i := 6) sc_greatest_in.nd rfl (Or.inl rfl)) pgs_nil)))
      (pss_one (ps_set (i := 4) sc_greatest_in.nd rfl (Or.inl rfl) (pe_op op_mulX (pv 4) (pe_df D_taken hr (by rfl) (pa_cons (pv 5) (pa_cons (pe_op op_fdivW (pv 6) (pv 1)) pa_nil)))))))
      (pss_cons (ps_asg (pe_df D_root_of hr (by rfl) (pa_cons (pv 3) (pa_cons (pv 1) pa_nil))) (pg_tup (by rfl) (pgs_cons (pg_name (i := 7) sc_greatest_in.nd rfl (Or.inl rfl)) (pgs_cons (pg_name (i := 8) sc_greatest_in.nd rfl (Or.inl rfl)) pgs_nil))))
      (pss_cons (ps_if (pt_cmpR op_eq (pv 8) pe_int (nomark _)) (pss_one (ps_set (i := 4) sc_greatest_in.nd rfl (Or.inl rfl) (pe_op op_mulX (pv 4) (pv 7)))) pss_nil)
      (pss_one (ps_ret (pv 4)))))))), ?_⟩
    refine at_st [some (.int n), some (.int e), none, none, none, none, none, none, none] rfl ?_
    walk_at "p0"
    refine ⟨n, e + 1, by push_cast; rfl, n1, nb, by omega, by omega, fun L l D p a ps H1 hP np na npa s1 hp ha hps => ?_⟩
    have ll := hP.len nb
    have ln : l ≤ n := by
      have h1 := hP.small
      have h2 : 1 * l ≤ 2 ^ L.length * l := Nat.mul_le_mul_right _ (Nat.pow_pos (by decide))
      omega
    walk_at "pw"
    refine r_gTup2 hp ?_
    walk_at "pw"
    refine r_exL (SqL.of ha) ?_
    refine for_list (xs := ps.map V.ref) (fun i σ G => ∃ (v5 v6 : Option V), σ = [some (.int n), some (.int e), some (.ref a), some (.int (l : Int)), some (.int ((Pm.freeG e (L.take i) : Nat) : Int)), v5, v6, none, none] ∧ G = H1 ∧ Pm.freeG e (L.take i) ≤ 2 ^ (60 * i))
      ⟨_, _, by rw [List.take_zero]; rfl, rfl, by rw [List.take_zero]; exact Nat.le_refl 1⟩ (fun i σ G _ ⟨_, _, _, eG, _⟩ => by rw [eG]; exact SqL.of ha) ?_ ?_
    · rintro i x σ G hx ⟨v5, v6, rfl, rfl, hb⟩
      rw [List.getElem?_map, Option.map_eq_some_iff] at hx
      obtain ⟨b, hbx, rfl⟩ := hx
      have il : i < L.length := by
        rw [← hps.1]
        exact (List.getElem?_eq_some_iff.mp hbx).1
      have hzi : L[i]? = some L[i] := List.getElem?_eq_getElem il
      have hbG := hps.2 i b _ hbx hzi
      obtain ⟨wp, wD, wv, w1⟩ := hP.pt.pr _ (List.mem_of_getElem? hzi)
      have low : L[i].1 ^ L[i].2 ≤ n := by
        refine Nat.le_of_dvd n1 ((Pm.pow_dvd_iff wp n1).mpr ?_)
        rw [wv]
        exact Nat.le_refl _
      have p60 : L[i].1 < 2 ^ 60 := Nat.lt_of_le_of_lt (Nat.le_trans (by rw [Nat.pow_one]; exact Nat.le_refl _ : L[i].1 ≤ L[i].1 ^ 1) (Nat.le_trans (Nat.pow_le_pow_right (by have := wp.1; omega) w1) low)) nb
      have t60 : L[i].2 < 60 := Nat.lt_of_not_le fun z => by
        have h1 := Pm.pow_le_exp wp.1 low
        have h2 : (2 : Nat) ^ 60 ≤ 2 ^ L[i].2 := Nat.pow_le_pow_right (by decide) z
        omega
      have te : L[i].2 / e ≤ L[i].2 := Nat.div_le_self _ _
      have f60 : L[i].1 ^ (L[i].2 / e) ≤ 2 ^ 60 := Nat.le_trans (Nat.pow_le_pow_right (by have := wp.1; omega) te) (Nat.le_of_lt (Nat.lt_of_le_of_lt low nb))
      refine r_gTup2 hbG ?_
      walk_at "pw"
      refine r_I (show CDivW _ _ from wide_div (b := 60) (by omega) (by omega) (by decide) (by decide)) ?_
      walk_at "pw"
      rw [show ((L[i].2 : Nat) : Int) / (e : Int) = ((L[i].2 / e : Nat) : Int) from (Int.natCast_ediv _ _).symm]
      refine ⟨L[i].1, L[i].2 / e, 60, rfl, p60, by omega, by omega, ?_⟩
      refine r_I (mulx_nat (60 * i) 60 hb f60 (by omega)) ?_
      walk_at "pw"
      have eG : Pm.freeG e (L.take (i + 1)) = Pm.freeG e (L.take i) * L[i].1 ^ (L[i].2 / e) := by
        rw [List.take_add_one, hzi]
        exact Pm.freeG_push _ _ _
      refine ⟨some (.int ((L[i].1 : Nat) : Int)), some (.int ((L[i].2 : Nat) : Int)), ?_, rfl, ?_⟩
      · rw [eG, Int.natCast_mul]
        rfl
      · rw [eG, show 60 * (i + 1) = 60 * i + 60 by omega, Nat.pow_add]
        exact Nat.mul_le_mul hb f60
    · rintro σ G ⟨v5, v6, rfl, rfl, hb⟩
      rw [List.length_map, hps.1] at hb
      rw [List.length_map, hps.1, List.take_length] at *
      walk_at "pw"
      refine ⟨l, e, rfl, by omega, by omega, Nat.lt_trans (Nat.lt_of_le_of_lt ln nb) (Nat.pow_lt_pow_right (by decide) (by decide)), fun r p2 H2 hr0 np2 s2 hp2 => ?_⟩
      have key := Pm.great_parted hP n1 (by omega) hr0
      have rl : r ≤ l := root_le (by omega) hr0
      walk_at "pw"
      refine r_gTup2 hp2 ?_
      walk_at "pw"
      refine r_iteI (fun z => ?_) (fun z => ?_)
      · have el : l = r ^ e := by omega
        rw [if_pos el] at key
        walk_at "pw"
        refine r_I (mulx_nat (60 * 60) 60 (Nat.le_trans hb (Nat.pow_le_pow_right (by decide) (by omega))) (Nat.le_trans rl (Nat.le_trans ln (Nat.le_of_lt nb))) (by decide)) ?_
        walk_at "pw"
        rw [← Int.natCast_mul]
        exact q _ _ key (s1.trans s2)
      · have el : l ≠ r ^ e := fun w => z (by omega)
        rw [if_neg el] at key
        walk_at "pw"
        exact q _ _ key (s1.trans s2)
theorem ok_is_free (F : Pl K mg "is_free" s_is_free ["number", "exponent"]) (D_greatest_in : Def P w K mg base 6 "greatest_in" ["number", "exponent"] spGreat) : Def P w K mg base 7 "is_free" ["number", "exponent"] spIsFree := by
  refine F.ok sc_is_free (fun vs H Q E h => ?_) (fun f cdv A outer s H vs Q E hr h => ?_)
  · obtain ⟨n, e, rfl, _⟩ := h
    rfl
  · obtain ⟨n, e, rfl, n1, nb, e2, eb, q⟩ := h
    refine ⟨_, (pss_one (ps_ret (pe_cmpR op_eq (pe_df D_greatest_in hr (by rfl) (pa_cons (pv 0) (pa_cons (pv 1) pa_nil))) pe_int (nomark _)))), ?_⟩
    refine at_st [some (.int n), some (.int e)] rfl ?_
    walk_at "p0"
    refine ⟨n, e, rfl, n1, nb, e2, eb, fun g H1 hg s1 => ?_⟩
    walk_at "pw"
    have : decide (V.int (g : Int) = V.int 1) = freeB n e := by
      rw [Bool.eq_iff_iff, decide_eq_true_iff, freeB_iff, ← hg.one (by omega)]
      exact ⟨fun z => by have := V.int.inj z; omega, fun z => by rw [z]; rfl⟩
    rw [this]
    exact q H1 s1
theorem ok_count_free (F : Pl K mg "count_free" s_count_free ["most", "exponent"]) (B : Bl mg) (D_root_of : Def P w K mg base 4 "root_of" ["number", "exponent"] spRootOf) (D_signs_to : Def P w K mg base 1 "_signs_to" ["most"] spSigns) (D_taken : Def P w K mg base 1 "taken" ["base", "exponent"] spTaken) :
    Def P w K mg base 5 "count_free" ["most", "exponent"] spCountFr := by
  refine F.ok sc_count_free (fun vs H Q E h => ?_) (fun f cdv A outer s H vs Q E hr h => ?_)
  · obtain ⟨n, e, rfl, _⟩ := h
    rfl
  · obtain ⟨n, e, rfl, hn, e2, eb, q⟩ := h
    refine ⟨_, (pss_cons (ps_asg (pe_df D_root_of hr (by rfl) (pa_cons (pv 0) (pa_cons (pv 1) pa_nil))) (pg_tup (by rfl) (pgs_cons (pg_name (i := 2) sc_count_free.nd rfl (Or.inl rfl)) (pgs_cons (pg_name (i := 3) sc_count_free.nd rfl (Or.inl rfl)) pgs_nil))))
      (pss_cons (ps_set (i := 4) sc_count_free.nd rfl (Or.inr rfl) (pe_df D_signs_to hr (by rfl) (pa_cons (pv 2) pa_nil)))
      (pss_one (ps_ret (pe_callB (cr_sum rfl) (by rfl) B.sum (by decide +kernel) (pa_cons (pe_lc (own := [("base", 5)]) (by rfl) sc_count_free.nd (pi_range2 (by rfl) B.range (pa_cons pe_int (pa_cons (pe_op op_add (pv 2) pe_int) pa_nil))) (blkOk_by (own := [("base", 5)]) (N := ["most", "exponent", "root", "_", "signs", "base"]) (sc := defScope s_count_free) (by decide +kernel)) (fun _ _ _ _ _ => (pg_name (i := 5) sc_count_free.nd rfl (Or.inl rfl))) (fun _ _ _ _ _ => pts_nil) (fun _ _ _ _ _ => (pe_op op_mulX (pe_ix (r := rIxL K) ix_list (pv 4) (pv 5) (fun _ _ => rfl)) (pe_op op_fdivW (pv 0) (pe_df D_taken hr (by rfl) (pa_cons (pv 5) (pa_cons (pv 1) pa_nil))))))) pa_nil)))))), ?_⟩
    refine at_st [some (.int n), some (.int e), none, none, none, none] rfl ?_
    walk_at "p0"
    refine ⟨n, e, rfl, by omega, by omega, Nat.lt_of_le_of_lt hn (by decide +kernel), fun r p H1 hr3 np s1 hp => ?_⟩
    have r5 := root_1e5 hr3 e2 hn
    refine r_gTup2 hp ?_
    walk_at "pw"
    refine ⟨r, rfl, by omega, fun a H2 f L na s2 ha hL hf => ?_⟩
    walk_at "pw"
    refine ⟨⟨by decide, by decide, by omega, by omega⟩, ?_⟩
    intro C nC
    refine lc_range (fun i G => (∃ zs : List Int, G C = some (.lst (zs.map V.int)) ∧ zs.length ≤ i ∧ zs.sum = Pm.SI (fun b => if 1 ≤ b then Pm.mu b * ((n / b ^ e : Nat) : Int) else 0) (i + 1)) ∧ Same H2 G) ⟨⟨[], upd_same, Nat.le_refl _, ?_⟩, same_new nC⟩ ?_ ?_
    · show (0 : Int) = 0 + (if 1 ≤ 0 then _ else 0)
      rw [if_neg (by decide)]
      rfl
    · rintro i G hi ⟨⟨zs, hC, lz, hs⟩, sG⟩
      obtain ⟨b, eb'⟩ : ∃ b, b = i + 1 := ⟨_, rfl⟩
      have br : b ≤ r := by omega
      rw [show (1 : Int) + (i : Int) = (b : Int) by rw [eb']; push_cast; omega]
      have fb : f b = Pm.mu b := hf b (by omega) br
      have mb := Pm.mu_abs (n := b) (by omega)
      have pb : b ^ e ≤ n := Nat.le_trans (Nat.pow_le_pow_left br e) hr3.1
      have pb1 : 1 ≤ b ^ e := Nat.pow_pos (by omega)
      walk_at "pw"
      refine ⟨rfl, ?_⟩
      walk_at "pw"
      refine r_ixL (SqL.of (sG _ _ ha)) (i := (b : Int)) (v := .int (f b)) (atI_nat (sg_at (by omega))) ?_
      rw [fb]
      walk_at "pw"
      refine ⟨b, e, 15, rfl, by omega, by omega, by omega, ?_⟩
      refine r_I (show CDivW _ _ from wide_div (b := 60) (by omega) (by omega) (by decide) (by decide)) ?_
      rw [show (n : Int) / ((b ^ e : Nat) : Int) = ((n / b ^ e : Nat) : Int) from (Int.natCast_ediv _ _).symm]
      have nd : n / b ^ e ≤ n := Nat.div_le_self _ _
      refine r_I (mulx_of 20 40 ?_ ?_ (by decide)) ?_
      · omega
      · rw [Int.natAbs_natCast]
        exact Nat.lt_of_le_of_lt (Nat.le_trans nd hn) (by decide)
      refine ⟨_, hC, few_line (by rw [List.length_map]; omega), ⟨zs ++ [Pm.mu b * ((n / b ^ e : Nat) : Int)], by rw [upd_same, List.map_append]; rfl, by rw [List.length_append]; simp; omega, ?_⟩, same_updNew sG nC⟩
      rw [List.sum_append, hs, Pm.SI_succ _ (i + 1), if_pos (show 1 ≤ i + 1 by omega), ← eb']
      simp
    · rintro G ⟨⟨zs, hC, lz, hs⟩, sG⟩
      walk_at "pw"
      refine r_sum (SqL.of hC) ?_
      rw [hs, show ((r : Int) + 1 - 1).toNat = r by omega, Pm.free_count (by omega) hr3]
      exact q G (s1.trans (s2.trans sG))
end
end K24

namespace K24
open PySem PySem.Spec PyProof.Rows L2 Pw SX TL RZ PW2
section
variable {P : Program} {w : World} {K : PySem.W.Frag} {mg : Str → Option Value} {base : Heap}
theorem ok_law_deck (F : Pl K mg "_law_deck" s_law_deck ["script"]) (B : Bl mg) : Def P w K mg base 1 "_law_deck" ["script"] (spDeckB K) := by
  refine F.ok sc_law_deck (fun vs H Q E h => ?_) (fun f cdv A outer s H vs Q E hr h => ?_)
  · obtain ⟨a, ns, rfl, _⟩ := h
    rfl
  · obtain ⟨a, ns, rfl, hS, hl, hb, q⟩ := h
    refine ⟨_, (pss_cons (ps_set (i := 1) sc_law_deck.nd rfl (Or.inl rfl) pe_int)
      (pss_cons (ps_set (i := 2) sc_law_deck.nd rfl (Or.inl rfl) (pe_op op_add (pe_op op_mulX pe_int (pe_callB cr_lenS (by rfl) B.len PySem.boot_len (pa_cons (pv 0) pa_nil))) pe_int))
      (pss_cons (ps_for PassesOwn.never rfl (pi_list (pe_slice sl_list (pv 0) po_none (po_some pe_int))) (pg_name (i := 3) sc_law_deck.nd rfl (Or.inl rfl))
      (pss_one (ps_if (pt_cmpR op_ge (pe_callB call_abs (by rfl) B.abs (by decide +kernel) (pa_cons (pv 3) pa_nil)) (pe_op op_pow pe_int pe_int) (nomark _)) (pss_one (ps_set (i := 1) sc_law_deck.nd rfl (Or.inl rfl) (pe_op op_add (pe_op op_shlW (pv 1) pe_int) (pe_callB call_abs (by rfl) B.abs (by decide +kernel) (pa_cons (pv 3) pa_nil))))) (pss_one (ps_set (i := 2) sc_law_deck.nd rfl (Or.inl rfl) (pe_op op_mod (pe_op op_add (pe_op op_mulX (pv 2) pe_int) (pv 3)) pe_int))))))
      (pss_one (ps_ret (pe_lst (pa_cons (pv 1) (pa_cons (pv 2) (pa_cons pe_int pa_nil))))))))), ?_⟩
    refine at_st [some (.ref a), none, none, none] rfl ?_
    walk_at "p0"
    refine r_lenL hS ?_
    walk_at "pw"
    rw [List.length_map]
    walk_at "pm"
    walk_at "pw"
    refine newC fun c H1 nc hc s1 => ?_
    walk_at "pw"
    refine r_exL (SqL.of hc) ?_
    rw [show (63 : Int) = ((63 : Nat) : Int) from rfl, cut_to] at hc
    obtain ⟨B, hB⟩ : ∃ B : Nat, B = 1048576 := ⟨_, rfl⟩
    rw [← hB] at hb
    refine for_list (xs := (ns.take 63).map V.int) (fun i σ H' => ∃ (G : Nat) (m : Int) (v : Option V), σ = [some (.ref a), some (.int (G : Int)), some (.int m), v] ∧ G < 2 ^ (B + (205 + 1) * i) ∧ 0 ≤ m ∧ m < 2 ^ 40 ∧ H' = H1) ⟨0, _, none, rfl, Nat.pow_pos (by decide), by omega, by omega, rfl⟩ (fun i σ H' _ ⟨_, _, _, _, _, _, _, e⟩ => by subst e; exact SqL.of hc) ?_ ?_
    · rintro i x σ H' hx ⟨G, m, v, rfl, hG, m0, m1, rfl⟩
      have hi : i < 63 := by
        have := (List.getElem?_eq_some_iff.mp hx).1
        rw [List.length_map, List.length_take] at this
        omega
      obtain ⟨z, hz, rfl⟩ := List.mem_map.mp (List.mem_of_getElem? hx)
      have hzb := bits_abs (hb z (List.mem_of_mem_take hz))
      walk_at "pw"
      have ea : (if z < 0 then -z else z) = (z.natAbs : Int) := by
        split <;> omega
      rw [ea]
      refine r_ite (fun e1 => ?_) (fun e1 => ?_)
      · walk_at "pw"
        refine r_shlG G 205 _ rfl rfl hG (by omega) ?_
        walk_at "pw"
        rw [ea, ← Int.natCast_add]
        exact ⟨_, m, _, rfl, great_step 205 hG hzb, m0, m1, rfl⟩
      · have hG2 : G < 2 ^ (B + (205 + 1) * (i + 1)) := Nat.lt_of_lt_of_le hG (Nat.pow_le_pow_right (by decide) (by omega))
        clear hG
        walk_at "pw"
        walk_at "pm"
        walk_at "pw"
        have r0 := Int.emod_nonneg (m * 43 + z) (show (1999999871 : Int) ≠ 0 by decide)
        have r1 := Int.emod_lt_of_pos (m * 43 + z) (show (0 : Int) < 1999999871 by decide)
        generalize (m * 43 + z) % 1999999871 = m2 at *
        exact ⟨G, m2, _, rfl, hG2, r0, by clear hG2; omega, rfl⟩
    · rintro σ H' ⟨G, m, v, rfl, hG, m0, m1, rfl⟩
      walk_at "pw"
      refine newL (by simp) fun d H2 nd hd s2 => ?_
      exact q d H2 (s1.free nd) (s1.trans s2) ⟨_, _, _, hd, Int.natCast_nonneg _, m0, m1, by decide, by decide⟩
theorem ok_law_draw (F : Pl K mg "_law_draw" s_law_draw ["deck", "most"]) : Def P w K mg base 1 "_law_draw" ["deck", "most"] spDrawB := by
  refine F.ok sc_law_draw (fun vs H Q E h => ?_) (fun f cdv A outer s H vs Q E hr h => ?_)
  · obtain ⟨d, m, n, rfl, _⟩ := h
    rfl
  · obtain ⟨d, most, n, rfl, m0, m1, D, hn, q⟩ := h
    obtain ⟨g, m, t, hd, g0, mm0, mm1, t0, tn⟩ := id D
    refine ⟨_, (pss_cons (ps_asg (pe_op op_add (pe_ix ix_list (pv 0) pe_int (fun _ _ => rfl)) pe_int) (pg_sub (pv 0) pe_int set_list))
      (pss_cons (ps_if (pt_cmpR op_gt (pe_ix ix_list (pv 0) pe_int (fun _ _ => rfl)) pe_int (nomark _)) (pss_cons (ps_set (i := 2) sc_law_draw.nd rfl (Or.inl rfl) (pe_op op_mod (pe_ix ix_list (pv 0) pe_int (fun _ _ => rfl)) (pv 1)))
      (pss_cons (ps_asg (pe_op op_fdivW (pe_ix ix_list (pv 0) pe_int (fun _ _ => rfl)) (pv 1)) (pg_sub (pv 0) pe_int set_list))
      (pss_one (ps_ret (pv 2))))) pss_nil)
      (pss_cons (ps_set (i := 3) sc_law_draw.nd rfl (Or.inl rfl) (pe_ix ix_list (pv 0) pe_int (fun _ _ => rfl)))
      (pss_cons (ps_set (i := 4) sc_law_draw.nd rfl (Or.inl rfl) (pe_op op_mod (pe_op op_add (pe_op op_add (pe_ix ix_list (pv 0) pe_int (fun _ _ => rfl)) (pe_op op_mulX (pe_op op_mulX pe_int (pv 3)) (pv 3))) (pe_op op_mulX pe_int (pv 3))) pe_int))
      (pss_cons (ps_set (i := 4) sc_law_draw.nd rfl (Or.inl rfl) (pe_op op_mod (pe_op op_mulX (pv 4) (pv 4)) pe_int))
      (pss_one (ps_ret (pe_op op_mod (pe_op op_fdivW (pe_op op_mod (pe_op op_add (pe_op op_mulX (pv 4) pe_int) (pe_op op_mulX (pv 3) pe_int)) pe_int) pe_int) (pv 1))))))))), ?_⟩
    refine at_st [some (.ref d), some (.int most), none, none, none] rfl ?_
    walk_at "p0"
    refine r_setLx [.int g, .int m, .int (t + 1)] hd rfl rfl fun H1 hd1 k1 => ?_
    walk_at "pw"
    refine r_ite (fun e1 => ?_) (fun e1 => ?_)
    · walk_at "pw"
      refine r_I m0 ?_
      walk_at "pw"
      refine r_I (wide_div (b := 8000) m0 (by omega) (by decide) (by decide)) ?_
      walk_at "pw"
      refine r_setLx [.int (g / most), .int m, .int (t + 1)] hd1 rfl rfl fun H2 hd2 k2 => ?_
      walk_at "pw"
      exact q _ _ (Int.emod_nonneg _ (by omega)) (Int.emod_lt_of_pos _ m0) (k1.trans k2) ⟨_, _, _, hd2, Int.ediv_nonneg g0 (by omega), mm0, mm1, by omega, by omega⟩
    · walk_at "pw"
      walk_at "pm"
      walk_at "pw"
      walk_at "pm"
      walk_at "pw"
      walk_at "pm"
      walk_at "pw"
      have r0 := Int.emod_nonneg (m + 70003 * (t + 1) * (t + 1) + 5003 * (t + 1)) (show (2147483543 : Int) ≠ 0 by decide)
      have r1 := Int.emod_lt_of_pos (m + 70003 * (t + 1) * (t + 1) + 5003 * (t + 1)) (show (0 : Int) < 2147483543 by decide)
      generalize (m + 70003 * (t + 1) * (t + 1) + 5003 * (t + 1)) % 2147483543 = x at *
      walk_at "pm"
      walk_at "pw"
      have y0 := Int.emod_nonneg (x * x) (show (2147483497 : Int) ≠ 0 by decide)
      have y1 := Int.emod_lt_of_pos (x * x) (show (0 : Int) < 2147483497 by decide)
      generalize x * x % 2147483497 = y at *
      walk_at "pm"
      walk_at "pw"
      walk_at "pm"
      walk_at "pw"
      walk_at "pd"
      walk_at "pw"
      refine r_I m0 ?_
      exact q _ _ (Int.emod_nonneg _ (by omega)) (Int.emod_lt_of_pos _ m0) k1 ⟨_, _, _, hd1, g0, mm0, mm1, by omega, by omega⟩
end
end K24

local macro_rules | `(tactic| walk_at "p1") => `(tactic| first | with_reducible refine Pw.r_pow7 ?_ | with_reducible refine Pw.r_pow14 ?_)
namespace K24
open PySem PySem.Spec PyProof.Rows L2 Pw SX TL RZ PW2 Pt
theorem dk_ne {H : Hp} {d p : Addr} {n : Nat} (D : DkAt H d n) (np : H p = none) : p ≠ d := fun e => by
  obtain ⟨g, m, t, h, _⟩ := D
  rw [e, h] at np
  cases np
def spNum24 : Sp := fun vs H Q _ => ∃ (d : Addr) (most n : Nat), vs = [.ref d, .int (most : Int)] ∧ 9 ≤ most ∧ most ≤ 1000000000000 ∧ DkAt H d n ∧ n ≤ 2 ^ 17 ∧ ∀ (r : Nat) (H' : Hp), 1 ≤ r → r ≤ most → Keep d H H' → DkAt H' d (n + 40) → Q (.int (r : Int)) H'
section
variable {P : Program} {w : World} {K : PySem.W.Frag} {mg : Str → Option Value} {base : Heap}
theorem ok_law_wide (F : Pl K mg "_law_wide" s_law_wide ["deck", "most"]) (D_law_draw : Def P w K mg base 1 "_law_draw" ["deck", "most"] spDrawB) : Def P w K mg base 2 "_law_wide" ["deck", "most"] spWide := by
  refine F.ok sc_law_wide (fun vs H Q E h => ?_) (fun f cdv A outer s H vs Q E hr h => ?_)
  · obtain ⟨d, most, n, rfl, _⟩ := h
    rfl
  · obtain ⟨d, most, n, rfl, m0, mb, D, hn, q⟩ := h
    refine ⟨_, (pss_one (ps_ret (pe_op op_mod (pe_op op_add (pe_op op_add (pe_op op_mulX (pe_df D_law_draw hr (by rfl) (pa_cons (pv 0) (pa_cons (pe_op op_pow pe_int pe_int) pa_nil))) (pe_op op_pow pe_int pe_int)) (pe_op op_mulX (pe_df D_law_draw hr (by rfl) (pa_cons (pv 0) (pa_cons (pe_op op_pow pe_int pe_int) pa_nil))) (pe_op op_pow pe_int pe_int))) (pe_df D_law_draw hr (by rfl) (pa_cons (pv 0) (pa_cons (pe_op op_pow pe_int pe_int) pa_nil)))) (pv 1)))), ?_⟩
    refine at_st [some (.ref d), some (.int most)] rfl ?_
    walk_at "p0"
    refine ⟨_, _, _, rfl, by decide, by decide, D, by omega, fun r1 H1 r10 r11 k1 D1 => ?_⟩
    walk_at "pw"
    walk_at "pm"
    walk_at "pw"
    refine ⟨_, _, _, rfl, by decide, by decide, D1, by omega, fun r2 H2 r20 r21 k2 D2 => ?_⟩
    walk_at "pw"
    walk_at "pm"
    walk_at "pw"
    refine ⟨_, _, _, rfl, by decide, by decide, D2, by omega, fun r3 H3 r30 r31 k3 D3 => ?_⟩
    walk_at "pw"
    refine r_I (by omega) ?_
    walk_at "pw"
    exact q _ _ (Int.emod_nonneg _ (by omega)) (Int.emod_lt_of_pos _ m0) (k1.trans (k2.trans k3)) D3
theorem ok_law_number (F : Pl K mg "_law_number" s_law_number ["deck", "most"]) (B : Bl mg) (D_law_draw : Def P w K mg base 1 "_law_draw" ["deck", "most"] spDrawB) (D_law_wide : Def P w K mg base 2 "_law_wide" ["deck", "most"] spWide) (D_taken : Def P w K mg base 1 "taken" ["base", "exponent"] spTaken) : Def P w K mg base 3 "_law_number" ["deck", "most"] spNum24 := by
  refine F.ok sc_law_number (fun vs H Q E h => ?_) (fun f cdv A outer s H vs Q E hr h => ?_)
  · obtain ⟨d, most, n, rfl, _⟩ := h
    rfl
  · obtain ⟨d, most, n, rfl, m9, mb, D0, hn, q⟩ := h
    refine ⟨_, (pss_cons (ps_set (i := 2) sc_law_number.nd rfl (Or.inl rfl) (pe_op op_add pe_int (pe_df D_law_draw hr (by rfl) (pa_cons (pv 0) (pa_cons pe_int pa_nil)))))
      (pss_cons (ps_set (i := 3) sc_law_number.nd rfl (Or.inl rfl) (pe_op op_add pe_int (pe_df D_law_draw hr (by rfl) (pa_cons (pv 0) (pa_cons pe_int pa_nil)))))
      (pss_cons (ps_set (i := 4) sc_law_number.nd rfl (Or.inl rfl) (pe_df D_taken hr (by rfl) (pa_cons (pv 2) (pa_cons (pv 3) pa_nil))))
      (pss_cons (ps_set (i := 5) sc_law_number.nd rfl (Or.inl rfl) (pe_lst (pa_cons (pe_op op_add pe_int (pe_df D_law_draw hr (by rfl) (pa_cons (pv 0) (pa_cons pe_int pa_nil)))) (pa_cons (pe_op op_add pe_int (pe_df D_law_wide hr (by rfl) (pa_cons (pv 0) (pa_cons (pv 1) pa_nil)))) (pa_cons (pv 4) (pa_cons (pe_op op_mulX (pv 4) (pe_op op_add pe_int (pe_df D_law_draw hr (by rfl) (pa_cons (pv 0) (pa_cons pe_int pa_nil))))) pa_nil))))))
      (pss_cons (ps_expr (pe_bm PySem.F.plainAttrs_list PySem.F.slot_list_append PySem.F.type_list_append mt_append (pv 5) (pa_cons (pe_op op_mulX (pe_op op_mulX pe_int (pv 4)) (pv 4)) pa_nil)))
      (pss_one (ps_ret (pe_callB (cr_max2 rfl) (by rfl) B.max (by decide +kernel) (pa_cons pe_int (pa_cons (pe_callB (cr_min2 rfl) (by rfl) B.min (by decide +kernel) (pa_cons (pv 1) (pa_cons (pe_ix ix_list (pv 5) (pe_df D_law_draw hr (by rfl) (pa_cons (pv 0) (pa_cons pe_int pa_nil))) (fun _ _ => rfl)) pa_nil))) pa_nil)))))))))), ?_⟩
    refine at_st [some (.ref d), some (.int most), none, none, none, none] rfl ?_
    try simp only [cxK, cxK2]
    refine oa_seq (fun σ' G => ∃ b : Nat, σ' = [some (.ref d), some (.int (most : Int)), some (.int (b : Int)), none, none, none] ∧ 1 ≤ b ∧ b ≤ 60 ∧ Keep d H G ∧ DkAt G d (n + 1)) (fun N hN => ?_) ?_
    · walk_at "pw"
      refine ⟨_, _, _, rfl, by decide, by decide, D0, by omega, fun r1 H1 r10 r11 k1 D1 => ?_⟩
      walk_at "pw"
      obtain ⟨b, e1⟩ : ∃ b : Nat, 1 + r1 = (b : Int) := ⟨(1 + r1).toNat, by omega⟩
      rw [e1]
      exact hN _ _ ⟨b, rfl, by omega, by omega, k1, D1⟩
    rintro σ' G1 ⟨b, rfl, b1, b2, k1, D1⟩
    refine oa_seq (fun σ' G => ∃ e : Nat, σ' = [some (.ref d), some (.int (most : Int)), some (.int (b : Int)), some (.int (e : Int)), none, none] ∧ 2 ≤ e ∧ e ≤ 6 ∧ Keep d H G ∧ DkAt G d (n + 2)) (fun N hN => ?_) ?_
    · walk_at "pw"
      refine ⟨_, _, _, rfl, by decide, by decide, D1, by omega, fun r2 H2 r20 r21 k2 D2 => ?_⟩
      walk_at "pw"
      obtain ⟨e, e1⟩ : ∃ e : Nat, 2 + r2 = (e : Int) := ⟨(2 + r2).toNat, by omega⟩
      rw [e1]
      exact hN _ _ ⟨e, rfl, by omega, by omega, k1.trans k2, D2⟩
    rintro σ' G2 ⟨e, rfl, e2, e6, k2, D2⟩
    refine oa_seq (fun σ' G => ∃ t : Nat, σ' = [some (.ref d), some (.int (most : Int)), some (.int (b : Int)), some (.int (e : Int)), some (.int (t : Int)), none] ∧ 1 ≤ t ∧ t ≤ 46656000000 ∧ G = G2) (fun N hN => ?_) ?_
    · walk_at "pw"
      refine ⟨b, e, 40, rfl, by omega, by omega, by omega, ?_⟩
      refine hN _ _ ⟨b ^ e, rfl, Nat.pow_pos b1, ?_, rfl⟩
      exact Nat.le_trans (Nat.pow_le_pow_left b2 e) (Nat.le_trans (Nat.pow_le_pow_right (by decide) e6) (by decide))
    rintro σ' G3 ⟨t, rfl, t1, t2, rfl⟩
    walk_at "pw"
    refine ⟨_, _, _, rfl, by decide, by decide, D2, by omega, fun r3 H3 r30 r31 k3 D3 => ?_⟩
    walk_at "pw"
    refine ⟨_, _, _, rfl, by omega, by omega, D3, by omega, fun r4 H4 r40 r41 k4 D4 => ?_⟩
    walk_at "pw"
    refine ⟨_, _, _, rfl, by decide, by decide, D4, by omega, fun r5 H5 r50 r51 k5 D5 => ?_⟩
    walk_at "pw"
    obtain ⟨c, ec⟩ : ∃ c : Nat, 1 + r5 = (c : Int) := ⟨(1 + r5).toNat, by omega⟩
    rw [ec]
    refine r_I (mulx_nat (n := t) (m := c) 60 60 (by omega) (by omega) (by decide)) ?_
    rw [← Int.natCast_mul]
    have tc : 1 ≤ t * c := Nat.mul_pos t1 (by omega)
    obtain ⟨tc', etc⟩ : ∃ v, v = t * c := ⟨_, rfl⟩
    rw [← etc] at tc ⊢
    walk_at "pw"
    refine newL (by simp) fun p H6 np hp s6 => ?_
    have pd := dk_ne D5 np
    walk_at "pw"
    refine ⟨.inl ⟨rfl, _, SqL.of hp⟩, ?_⟩
    walk_at "pw"
    refine r_I (mulx_nat (n := 72) (m := t) 60 60 (by decide) (by omega) (by decide)) ?_
    walk_at "pw"
    rw [show (72 : Int) * (t : Int) = ((72 * t : Nat) : Int) by push_cast; rfl]
    refine r_I (mulx_nat (n := 72 * t) (m := t) 60 60 (by omega) (by omega) (by decide)) ?_
    rw [← Int.natCast_mul]
    have t3 : 1 ≤ 72 * t * t := Nat.mul_pos (by omega) t1
    obtain ⟨tt, ett⟩ : ∃ v, v = 72 * t * t := ⟨_, rfl⟩
    rw [← ett] at t3 ⊢
    walk_at "pw"
    refine r_append hp (by show 4 < sizeLine; decide) ?_
    have kk5 := k2.trans (k3.trans (k4.trans k5))
    have npH : H p = none := by
      cases e : H p with
      | none => rfl
      | some o =>
        rw [kk5 _ _ pd e] at np
        cases np
    have kk : Keep d H (upd H6 p (.lst ([V.int (1 + r3), V.int (1 + r4), V.int (t : Int), V.int (tc' : Int)] ++ [V.int (tt : Int)]))) := fun b o n1 e => by
      rw [upd_ne (ne_of_none e npH)]
      exact s6 b o (kk5 b o n1 e)
    have hp5 : (upd H6 p (.lst ([V.int (1 + r3), V.int (1 + r4), V.int (t : Int), V.int (tc' : Int)] ++ [V.int (tt : Int)]))) p = some (.lst ([V.int (1 + r3), V.int (1 + r4), V.int (t : Int), V.int (tc' : Int)] ++ [V.int (tt : Int)])) := upd_same
    have D6 : DkAt (upd H6 p (.lst ([V.int (1 + r3), V.int (1 + r4), V.int (t : Int), V.int (tc' : Int)] ++ [V.int (tt : Int)]))) d (n + 2 + 1 + 3 + 1) := by
      obtain ⟨g, m, t, h1, h2⟩ := D5.same s6
      exact ⟨g, m, t, by rw [upd_ne pd.symm]; exact h1, h2⟩
    generalize upd H6 p (.lst ([V.int (1 + r3), V.int (1 + r4), V.int (t : Int), V.int (tc' : Int)] ++ [V.int (tt : Int)])) = H7 at *
    walk_at "pw"
    refine ⟨_, _, _, rfl, by decide, by decide, D6, by omega, fun r8 H8 r80 r81 k8 D8 => ?_⟩
    obtain ⟨z, hz, hat⟩ := at_ints (ns := [1 + r3, 1 + r4, (t : Int), (tc' : Int), (tt : Int)]) r80 r81
    have zb : 1 ≤ z := by
      simp only [List.mem_cons, List.not_mem_nil, or_false] at hz
      omega
    refine r_ixL (SqL.of (k8 _ _ pd hp5)) hat ?_
    walk_at "pw"
    obtain ⟨r, hr', hr1, hr2⟩ : ∃ r : Nat, (if (if z < (most : Int) then z else (most : Int)) > 1 then (if z < (most : Int) then z else (most : Int)) else 1) = (r : Int) ∧ 1 ≤ r ∧ r ≤ most := by
      by_cases c : z < (most : Int)
      · rw [if_pos c]
        by_cases y : z > 1
        · exact ⟨z.toNat, by rw [if_pos y]; omega, by omega, by omega⟩
        · exact ⟨1, if_neg y, by decide, by omega⟩
      · rw [if_neg c]
        by_cases y : (most : Int) > 1
        · exact ⟨most, if_pos y, by omega, by omega⟩
        · exact ⟨1, if_neg y, by decide, by omega⟩
    rw [hr']
    exact q r H8 hr1 hr2 (kk.trans k8) (D8.mono (by omega))
end
end K24

local macro_rules | `(tactic| walk_at "p1") => `(tactic| first | with_reducible refine Pw.r_pow7 ?_ | with_reducible refine Pw.r_pow14 ?_)
namespace K24
open PySem PySem.Spec PyProof.Rows L2 Pw SX TL RZ PW2 Pt
theorem pow_full {n : Nat} (n1 : 1 ≤ n) (h : Pm.IsPow n) : Pm.Full n := fun p hp d => by
  obtain ⟨b, k, k2, e⟩ := h
  have b1 : 1 ≤ b := Nat.pos_of_ne_zero fun z => by
    rw [z, Nat.zero_pow (by omega)] at e
    omega
  have h1 := (Pm.vl_pos hp n1).mpr d
  rw [← e, Pm.vl_pow hp b1] at h1 ⊢
  have h2 : 1 ≤ Pm.vl p b := Nat.pos_of_ne_zero fun z => by
    rw [z, Nat.mul_zero] at h1
    omega
  exact Nat.le_trans k2 (Nat.le_mul_of_pos_right k h2)
theorem full_free {n : Nat} (n1 : 1 ≤ n) : (fullB n && freeB n 2) = decide (n = 1) := by
  rw [Bool.eq_iff_iff, Bool.and_eq_true, decide_eq_true_iff, fullB_iff, freeB_iff]
  constructor
  · rintro ⟨h1, h2⟩
    refine Classical.byContradiction fun z => ?_
    obtain ⟨p, hp, d⟩ := Pm.prime_factor n (by omega)
    have := h1 p hp d
    have := h2 p hp
    omega
  · rintro rfl
    refine ⟨fun p hp d => ?_, fun p hp => by rw [Pm.vl_one]; decide⟩
    have := Nat.le_of_dvd (by decide) d
    have := hp.1
    omega
theorem great_rest {n e g : Nat} (h : Pm.Great n e g) (n1 : 1 ≤ n) (e1 : 1 ≤ e) : Pm.Free (n / g ^ e) e := fun p hp => by
  obtain ⟨m, em⟩ := h.self n1 e1
  have ge : 1 ≤ g ^ e := Nat.pow_pos h.pos
  have m1 : 1 ≤ m := Nat.pos_of_ne_zero fun z => by rw [z, Nat.mul_zero] at em; omega
  rw [show n / g ^ e = m by rw [em, Nat.mul_div_cancel_left _ (by omega)]]
  have h1 := h.vl p hp
  rw [em, Pm.vl_mul hp ge m1, Pm.vl_pow hp h.pos, Nat.mul_add_div (by omega)] at h1
  have h2 : Pm.vl p m / e = 0 := by omega
  exact (Nat.div_eq_zero_iff.mp h2).resolve_left (by omega)
theorem great_more {n e g g' : Nat} (h : Pm.Great n e g) (h' : Pm.Great n (e + 1) g') (e1 : 1 ≤ e) : g' ≤ g := Nat.le_of_dvd h.pos (Pm.dvd_of_vl h'.pos h.pos fun p hp => by
  rw [h.vl p hp, h'.vl p hp]
  exact Nat.div_le_div_left (by omega) (by omega))
theorem great_times {n g t : Nat} (h : Pm.Great n 2 g) (n1 : 1 ≤ n) (t1 : 1 ≤ t) : Pm.Great (n * t * t) 2 (t * g) := ⟨Nat.mul_pos t1 h.pos, fun p hp => by
  rw [Pm.vl_mul hp t1 h.pos, h.vl p hp, Pm.vl_mul hp (Nat.mul_pos n1 t1) t1, Pm.vl_mul hp n1 t1]
  omega⟩
theorem full_mul {a b : Nat} (a1 : 1 ≤ a) (b1 : 1 ≤ b) (h : Pm.Full a) (h' : Pm.Full b) : Pm.Full (a * b) := fun p hp d => by
  rw [Pm.vl_mul hp a1 b1]
  have h1 := (Pm.vl_pos hp (Nat.mul_pos a1 b1)).mpr d
  rw [Pm.vl_mul hp a1 b1] at h1
  rcases Nat.eq_zero_or_pos (Pm.vl p a) with z | z
  · have := h' p hp ((Pm.vl_pos hp b1).mp (by omega))
    omega
  · have := h p hp ((Pm.vl_pos hp a1).mp z)
    omega
def spParts : Sp := fun vs H Q _ => ∃ (d : Addr) (n k : Nat), vs = [.ref d, .int (n : Int)] ∧ 1 ≤ n ∧ n ≤ 1000000000000 ∧ DkAt H d k ∧ k ≤ 2 ^ 15 ∧ ∀ H' : Hp, Keep d H H' → DkAt H' d (k + 50) → Q (.bl true) H'
section
variable {P : Program} {w : World} {K : PySem.W.Frag} {mg : Str → Option Value} {base : Heap}
theorem ok_law_parts_right (F : Pl K mg "_law_parts_right" s_law_parts_right ["deck", "number"]) (B : Bl mg) (D_law_draw : Def P w K mg base 1 "_law_draw" ["deck", "most"] spDrawB) (D_law_number : Def P w K mg base 3 "_law_number" ["deck", "most"] spNum24) (D_taken : Def P w K mg base 1 "taken" ["base", "exponent"] spTaken)
    (D_is_full : Def P w K mg base 7 "is_full" ["number"] spIsFull) (D_is_power : Def P w K mg base 6 "is_power" ["number"] spIsPower) (D_greatest_in : Def P w K mg base 6 "greatest_in" ["number", "exponent"] spGreat) (D_is_free : Def P w K mg base 7 "is_free" ["number", "exponent"] spIsFree) : Def P w K mg base 8 "_law_parts_right" ["deck", "number"] spParts := by
  refine F.ok sc_law_parts_right (fun vs H Q E h => ?_) (fun f cdv A outer s H vs Q E hr h => ?_)
  · obtain ⟨d, n, k, rfl, _⟩ := h
    rfl
  · obtain ⟨d, n, k, rfl, n1, nb, D0, hk, q⟩ := h
    have n60 : n < 2 ^ 60 := Nat.lt_of_le_of_lt nb (by decide)
    refine ⟨_, (pss_cons (ps_set (i := 2) sc_law_parts_right.nd rfl (Or.inl rfl) (pe_df D_is_full hr (by rfl) (pa_cons (pv 1) pa_nil)))
      (pss_cons (ps_if (PW.pt (pw_or (PW.pt (pw_and (pt_val (pe_df D_is_power hr (by rfl) (pa_cons (pv 1) pa_nil))) (pw_and1 (pt_not (pt_val (pv 2)))))) (pw_or1 (pt_cmpR op_ne (pe_and (pv 2) (pe_one (pe_df D_is_free hr (by rfl) (pa_cons (pv 1) (pa_cons pe_int pa_nil))))) (pe_cmpR op_eq (pv 1) pe_int (nomark _)) (nomark _))))) (pss_one (ps_ret pe_bl)) pss_nil)
      (pss_cons (ps_set (i := 3) sc_law_parts_right.nd rfl (Or.inl rfl) (pe_op op_add pe_int (pe_df D_law_draw hr (by rfl) (pa_cons (pv 0) (pa_cons pe_int pa_nil)))))
      (pss_cons (ps_set (i := 4) sc_law_parts_right.nd rfl (Or.inl rfl) (pe_df D_greatest_in hr (by rfl) (pa_cons (pv 1) (pa_cons (pv 3) pa_nil))))
      (pss_cons (ps_set (i := 5) sc_law_parts_right.nd rfl (Or.inl rfl) (pe_df D_taken hr (by rfl) (pa_cons (pv 4) (pa_cons (pv 3) pa_nil))))
      (pss_cons (ps_if (PW.pt (pw_or (pt_cmpR op_ne (pe_op op_mod (pv 1) (pv 5)) pe_int (nomark _)) (pw_or1 (pt_cmpR op_notBl (pe_df D_is_free hr (by rfl) (pa_cons (pe_op op_fdivW (pv 1) (pv 5)) (pa_cons (pv 3) pa_nil))) pe_bl (nomark _))))) (pss_one (ps_ret pe_bl)) pss_nil)
      (pss_cons (ps_if (pt_cmpR op_ne (pe_cmpR op_eq (pv 4) pe_int (nomark _)) (pe_df D_is_free hr (by rfl) (pa_cons (pv 1) (pa_cons (pv 3) pa_nil))) (nomark _)) (pss_one (ps_ret pe_bl)) pss_nil)
      (pss_cons (ps_if (pt_cmpR op_gt (pe_df D_greatest_in hr (by rfl) (pa_cons (pv 1) (pa_cons (pe_op op_add (pv 3) pe_int) pa_nil))) (pv 4) (nomark _)) (pss_one (ps_ret pe_bl)) pss_nil)
      (pss_cons (ps_set (i := 6) sc_law_parts_right.nd rfl (Or.inl rfl) (pe_op op_add pe_int (pe_df D_law_draw hr (by rfl) (pa_cons (pv 0) (pa_cons pe_int pa_nil)))))
      (pss_cons (ps_set (i := 7) sc_law_parts_right.nd rfl (Or.inl rfl) (pe_op op_mulX (pe_op op_mulX (pv 1) (pv 6)) (pv 6)))
      (pss_cons (ps_if (PW.pt (pw_and (pt_cmpR op_le (pv 7) (pe_op op_pow pe_int pe_int) (nomark _)) (pw_and1 (pt_cmpR op_ne (pe_df D_greatest_in hr (by rfl) (pa_cons (pv 7) (pa_cons pe_int pa_nil))) (pe_op op_mulX (pv 6) (pe_df D_greatest_in hr (by rfl) (pa_cons (pv 1) (pa_cons pe_int pa_nil)))) (nomark _))))) (pss_one (ps_ret pe_bl)) pss_nil)
      (pss_cons (ps_set (i := 8) sc_law_parts_right.nd rfl (Or.inl rfl) (pe_df D_law_number hr (by rfl) (pa_cons (pv 0) (pa_cons (pe_op op_pow pe_int pe_int) pa_nil))))
      (pss_cons (ps_if (PW.pt (pw_or (pt_cmpR op_gt (pe_op op_mulX (pv 1) (pv 8)) (pe_op op_pow pe_int pe_int) (nomark _)) (pw_or (pt_not (pt_val (pv 2))) (pw_or1 (pt_not (pt_val (pe_df D_is_full hr (by rfl) (pa_cons (pv 8) pa_nil)))))))) (pss_one (ps_ret pe_bl)) pss_nil)
      (pss_one (ps_ret (pe_cmpR op_isBl (pe_df D_is_full hr (by rfl) (pa_cons (pe_op op_mulX (pv 1) (pv 8)) pa_nil)) pe_bl (nomark _))))))))))))))))), ?_⟩
    refine at_st [some (.ref d), some (.int n), none, none, none, none, none, none, none] rfl ?_
    try simp only [cxK, cxK2]
    refine oa_seq (fun σ' G => σ' = [some (.ref d), some (.int n), some (.bl (fullB n)), none, none, none, none, none, none] ∧ Same H G) (fun N hN => ?_) ?_
    · walk_at "pw"
      refine ⟨n, rfl, n1, n60, fun H1 s1 => ?_⟩
      walk_at "pw"
      exact hN _ _ ⟨rfl, s1⟩
    rintro σ' G1 ⟨rfl, s1⟩
    refine oa_seq (fun σ' G => σ' = [some (.ref d), some (.int n), some (.bl (fullB n)), none, none, none, none, none, none] ∧ Same H G) (fun N hN => ?_) ?_
    · walk_at "pw"
      refine ⟨n, rfl, Nat.lt_trans n60 (Nat.pow_lt_pow_right (by decide) (by decide)), fun b g H2 hg s2 => ?_⟩
      have ff := full_free n1
      have dv : decide (V.int (n : Int) = V.int 1) = decide (n = 1) := decide_eq_decide.mpr ⟨fun z => by have := V.int.inj z; omega, fun z => by rw [z]; rfl⟩
      cases hf : fullB n with
      | true =>
        rw [hf, Bool.true_and] at ff
        have fin : ∀ G, Same H G → N [some (.ref d), some (.int n), some (.bl true), none, none, none, none, none, none] G := fun G s => hN _ _ ⟨by rw [hf], s⟩
        have sH2 := s1.trans s2
        walk_at "pw"
        refine r_ite (fun z => ?_) (fun z => ?_)
        · walk_at "pw"
          refine ⟨n, 2, rfl, n1, n60, by decide, by decide, fun G s => ?_⟩
          walk_at "pw"
          rw [dv, ← ff]
          refine r_neS (x := .bl (freeB n 2)) (y := .bl (freeB n 2)) rfl ?_
          refine ⟨_, rfl, ?_⟩
          refine r_iteN (fun z => absurd rfl z) (fun _ => ?_)
          walk_at "pw"
          exact fin _ (sH2.trans s)
        · walk_at "pw"
          refine ⟨n, 2, rfl, n1, n60, by decide, by decide, fun G s => ?_⟩
          walk_at "pw"
          rw [dv, ← ff]
          refine r_neS (x := .bl (freeB n 2)) (y := .bl (freeB n 2)) rfl ?_
          refine ⟨_, rfl, ?_⟩
          refine r_iteN (fun z => absurd rfl z) (fun _ => ?_)
          walk_at "pw"
          exact fin _ (sH2.trans s)
      | false =>
        have ng : ¬ 1 < g := fun z => by
          have h := (gwp_iff hg).mpr z
          rw [fullB_iff.mpr (pow_full n1 h.2)] at hf
          cases hf
        rw [hf, Bool.false_and] at ff
        have fin : ∀ G, Same H G → N [some (.ref d), some (.int n), some (.bl false), none, none, none, none, none, none] G := fun G s => hN _ _ ⟨by rw [hf], s⟩
        have sH2 := s1.trans s2
        walk_at "pw"
        refine r_ite (fun z => absurd z ng) (fun z => ?_)
        walk_at "pw"
        rw [dv, ← ff]
        refine r_neS (x := .bl false) (y := .bl false) rfl ?_
        refine ⟨_, rfl, ?_⟩
        refine r_iteN (fun z => absurd rfl z) (fun _ => ?_)
        walk_at "pw"
        exact fin _ sH2
    rintro σ' G2 ⟨rfl, s2⟩
    have D2 := D0.same s2
    refine oa_seq (fun σ' G => ∃ e : Nat, σ' = [some (.ref d), some (.int n), some (.bl (fullB n)), some (.int (e : Int)), none, none, none, none, none] ∧ 2 ≤ e ∧ e ≤ 40 ∧ Keep d H G ∧ DkAt G d (k + 1)) (fun N hN => ?_) ?_
    · walk_at "pw"
      refine ⟨_, _, _, rfl, by decide, by decide, D2, by omega, fun r1 H3 r10 r11 k1 D3 => ?_⟩
      walk_at "pw"
      obtain ⟨e, e1⟩ : ∃ e : Nat, 2 + r1 = (e : Int) := ⟨(2 + r1).toNat, by omega⟩
      rw [e1]
      exact hN _ _ ⟨e, rfl, by omega, by omega, (Keep.of s2).trans k1, D3⟩
    rintro σ' G3 ⟨e, rfl, e2, e40, k3, D3⟩
    refine oa_seq (fun σ' G => ∃ g : Nat, σ' = [some (.ref d), some (.int n), some (.bl (fullB n)), some (.int (e : Int)), some (.int (g : Int)), none, none, none, none] ∧ Pm.Great n e g ∧ Same G3 G) (fun N hN => ?_) ?_
    · walk_at "pw"
      refine ⟨n, e, rfl, n1, n60, e2, by omega, fun g H4 hg s4 => ?_⟩
      walk_at "pw"
      exact hN _ _ ⟨g, rfl, hg, s4⟩
    rintro σ' G4 ⟨g, rfl, hg, s4⟩
    have gd := hg.self n1 (by omega)
    have gl : g ^ e ≤ n := Nat.le_of_dvd n1 gd
    have gp : 1 ≤ g ^ e := Nat.pow_pos hg.pos
    have gn : g ≤ n := Nat.le_trans (Pm.pow_ge (by omega) hg.pos) gl
    refine oa_seq (fun σ' G => σ' = [some (.ref d), some (.int n), some (.bl (fullB n)), some (.int (e : Int)), some (.int (g : Int)), some (.int ((g ^ e : Nat) : Int)), none, none, none] ∧ G = G4) (fun N hN => ?_) ?_
    · walk_at "pw"
      refine ⟨g, e, 60, rfl, by omega, by omega, by omega, ?_⟩
      exact hN _ _ ⟨rfl, rfl⟩
    rintro σ' G5 ⟨rfl, rfl⟩
    refine oa_seq (fun σ' G => σ' = [some (.ref d), some (.int n), some (.bl (fullB n)), some (.int (e : Int)), some (.int (g : Int)), some (.int ((g ^ e : Nat) : Int)), none, none, none] ∧ Same G5 G) (fun N hN => ?_) ?_
    · walk_at "pw"
      refine r_I (show (0 : Int) < ((g ^ e : Nat) : Int) by omega) ?_
      walk_at "pw"
      rw [show (n : Int) % ((g ^ e : Nat) : Int) = 0 by rw [← Int.natCast_emod, Nat.mod_eq_zero_of_dvd gd]; rfl]
      refine r_iteN (fun z => absurd rfl z) (fun _ => ?_)
      walk_at "pw"
      refine r_I (wide_div (b := 60) (by omega) (by omega) (by decide) (by decide)) ?_
      walk_at "pw"
      rw [show (n : Int) / ((g ^ e : Nat) : Int) = ((n / g ^ e : Nat) : Int) from (Int.natCast_ediv _ _).symm]
      have nd : n / g ^ e ≤ n := Nat.div_le_self _ _
      refine ⟨n / g ^ e, e, rfl, (Nat.le_div_iff_mul_le gp).mpr (by omega), by omega, e2, by omega, fun H7 s7 => ?_⟩
      rw [freeB_iff.mpr (great_rest hg n1 (by omega))]
      walk_at "pw"
      refine ⟨true, true, rfl, rfl, ?_⟩
      refine ⟨_, rfl, ?_⟩
      rw [if_neg (by decide)]
      walk_at "pw"
      exact hN _ _ ⟨rfl, s7⟩
    rintro σ' G6 ⟨rfl, s6⟩
    refine oa_seq (fun σ' G => σ' = [some (.ref d), some (.int n), some (.bl (fullB n)), some (.int (e : Int)), some (.int (g : Int)), some (.int ((g ^ e : Nat) : Int)), none, none, none] ∧ Same G5 G) (fun N hN => ?_) ?_
    · walk_at "pw"
      refine ⟨n, e, rfl, n1, n60, e2, by omega, fun H7 s7 => ?_⟩
      have eb' : decide (V.int (g : Int) = V.int 1) = freeB n e := by
        rw [Bool.eq_iff_iff, decide_eq_true_iff, freeB_iff, ← hg.one (by omega)]
        exact ⟨fun z => by have := V.int.inj z; omega, fun z => by rw [z]; rfl⟩
      rw [eb']
      refine r_neS (x := .bl (freeB n e)) (y := .bl (freeB n e)) rfl ?_
      refine ⟨_, rfl, ?_⟩
      refine r_iteN (fun z => absurd rfl z) (fun _ => ?_)
      walk_at "pw"
      exact hN _ _ ⟨rfl, s6.trans s7⟩
    rintro σ' G7 ⟨rfl, s7⟩
    refine oa_seq (fun σ' G => σ' = [some (.ref d), some (.int n), some (.bl (fullB n)), some (.int (e : Int)), some (.int (g : Int)), some (.int ((g ^ e : Nat) : Int)), none, none, none] ∧ Same G5 G) (fun N hN => ?_) ?_
    · walk_at "pw"
      refine ⟨n, e + 1, by push_cast; rfl, n1, n60, by omega, by omega, fun g' H8 hg' s8 => ?_⟩
      have := great_more hg hg' (by omega)
      walk_at "pw"
      refine r_ite (fun z => by omega) (fun z => ?_)
      walk_at "pw"
      exact hN _ _ ⟨rfl, s7.trans s8⟩
    rintro σ' G8 ⟨rfl, s8⟩
    have D8 := (D3.same s4).same s8
    have k8 : Keep d H G8 := k3.trans (Keep.of (s4.trans s8))
    refine oa_seq (fun σ' G => ∃ t : Nat, σ' = [some (.ref d), some (.int n), some (.bl (fullB n)), some (.int (e : Int)), some (.int (g : Int)), some (.int ((g ^ e : Nat) : Int)), some (.int (t : Int)), none, none] ∧ 1 ≤ t ∧ t ≤ 9 ∧ Keep d H G ∧ DkAt G d (k + 2)) (fun N hN => ?_) ?_
    · walk_at "pw"
      refine ⟨_, _, _, rfl, by decide, by decide, D8, by omega, fun r1 H9 r10 r11 k1 D9 => ?_⟩
      walk_at "pw"
      obtain ⟨t, e1⟩ : ∃ t : Nat, 1 + r1 = (t : Int) := ⟨(1 + r1).toNat, by omega⟩
      rw [e1]
      exact hN _ _ ⟨t, rfl, by omega, by omega, k8.trans k1, D9⟩
    rintro σ' G9 ⟨t, rfl, t1, t9, k9, D9⟩
    have nt : n * t ≤ 1000000000000 * 9 := Nat.mul_le_mul nb t9
    have ntt : n * t * t ≤ 1000000000000 * 9 * 9 := Nat.mul_le_mul nt t9
    have ntt1 : 1 ≤ n * t * t := Nat.mul_pos (Nat.mul_pos n1 t1) t1
    refine oa_seq (fun σ' G => σ' = [some (.ref d), some (.int n), some (.bl (fullB n)), some (.int (e : Int)), some (.int (g : Int)), some (.int ((g ^ e : Nat) : Int)), some (.int (t : Int)), some (.int ((n * t * t : Nat) : Int)), none] ∧ G = G9) (fun N hN => ?_) ?_
    · walk_at "pw"
      refine r_I (mulx_nat (n := n) (m := t) 60 60 (by omega) (by omega) (by decide)) ?_
      walk_at "pw"
      rw [← Int.natCast_mul]
      refine r_I (mulx_nat (n := n * t) (m := t) 60 60 (by omega) (by omega) (by decide)) ?_
      walk_at "pw"
      rw [← Int.natCast_mul]
      exact hN _ _ ⟨rfl, rfl⟩
    rintro σ' G10 ⟨rfl, rfl⟩
    refine oa_seq (fun σ' G => σ' = [some (.ref d), some (.int n), some (.bl (fullB n)), some (.int (e : Int)), some (.int (g : Int)), some (.int ((g ^ e : Nat) : Int)), some (.int (t : Int)), some (.int ((n * t * t : Nat) : Int)), none] ∧ Same G10 G) (fun N hN => ?_) ?_
    · walk_at "pw"
      refine r_ite (fun z => ?_) (fun z => ?_)
      · walk_at "pw"
        refine ⟨n * t * t, 2, rfl, ntt1, by omega, by decide, by decide, fun g1 H11 hg1 s11 => ?_⟩
        walk_at "pw"
        refine ⟨n, 2, rfl, n1, n60, by decide, by decide, fun g2 H12 hg2 s12 => ?_⟩
        have g2n : g2 ≤ n := Nat.le_trans (Pm.pow_ge (e := 2) (by decide) hg2.pos) (Nat.le_of_dvd n1 (hg2.self n1 (by decide)))
        cases hg1.uniq (great_times hg2 n1 t1)
        walk_at "pw"
        refine r_I (mulx_nat (n := t) (m := g2) 60 60 (by omega) (by omega) (by decide)) ?_
        rw [← Int.natCast_mul]
        walk_at "pw"
        refine r_iteN (fun z => absurd rfl z) (fun _ => ?_)
        walk_at "pw"
        exact hN _ _ ⟨rfl, s11.trans s12⟩
      · walk_at "pw"
        exact hN _ _ ⟨rfl, Same.refl _⟩
    rintro σ' G11 ⟨rfl, s11⟩
    refine oa_seq (fun σ' G => ∃ o : Nat, σ' = [some (.ref d), some (.int n), some (.bl (fullB n)), some (.int (e : Int)), some (.int (g : Int)), some (.int ((g ^ e : Nat) : Int)), some (.int (t : Int)), some (.int ((n * t * t : Nat) : Int)), some (.int (o : Int))] ∧ 1 ≤ o ∧ o ≤ 1000000 ∧ Keep d H G ∧ DkAt G d (k + 50)) (fun N hN => ?_) ?_
    · walk_at "pw"
      refine ⟨d, 1000000, _, rfl, by decide, by decide, D9.same s11, by omega, fun o H12 o1 o2 k12 D12 => ?_⟩
      walk_at "pw"
      exact hN _ _ ⟨o, rfl, o1, o2, k9.trans ((Keep.of s11).trans k12), D12.mono (by omega)⟩
    rintro σ' G12 ⟨o, rfl, o1, o2, k12, D12⟩
    have no : n * o ≤ 1000000000000 * 1000000 := Nat.mul_le_mul nb o2
    have no1 : 1 ≤ n * o := Nat.mul_pos n1 o1
    walk_at "pw"
    refine r_I (mulx_nat (n := n) (m := o) 60 60 (by omega) (by omega) (by decide)) ?_
    rw [← Int.natCast_mul]
    walk_at "pw"
    refine r_ite (fun z => ?_) (fun z => ?_)
    · walk_at "pw"
      exact q G12 k12 D12
    · cases hf : fullB n with
      | false =>
        walk_at "pw"
        exact q G12 k12 D12
      | true =>
        walk_at "pw"
        refine ⟨o, rfl, o1, by omega, fun G13 s13 => ?_⟩
        cases ho : fullB o with
        | false =>
          walk_at "pw"
          exact q G13 (k12.trans (Keep.of s13)) (D12.same s13)
        | true =>
          walk_at "pw"
          refine r_I (mulx_nat (n := n) (m := o) 60 60 (by omega) (by omega) (by decide)) ?_
          walk_at "pw"
          rw [← Int.natCast_mul]
          refine ⟨n * o, rfl, no1, by omega, fun G14 s14 => ?_⟩
          rw [fullB_iff.mpr (full_mul n1 o1 (fullB_iff.mp hf) (fullB_iff.mp ho))]
          walk_at "pw"
          refine ⟨true, true, rfl, rfl, ?_⟩
          exact q G14 (k12.trans (Keep.of (s13.trans s14))) ((D12.same s13).same s14)
end
end K24

local macro_rules | `(tactic| walk_at "p1") => `(tactic| first | with_reducible refine Pw.r_pow7 ?_ | with_reducible refine Pw.r_pow14 ?_)
namespace K24
open PySem PySem.Spec PyProof.Rows L2 Pw SX TL RZ PW2 Pt
theorem cntF_next {s v : Nat} (h : Pm.NextF s v) : Pm.cntF v = Pm.cntF s + 1 := by
  have flat : ∀ i, s + i < v → Pm.cntF (s + i) = Pm.cntF s := fun i => by
    induction i with
    | zero => exact fun _ => rfl
    | succ i ih =>
      intro hi
      have nf : ¬ Pm.Full (s + i + 1) := fun z => by
        have := h.min (s + i + 1) (by omega) z
        omega
      rw [show s + (i + 1) = s + i + 1 by omega, Pm.cntF_succ, ih (by omega), Pm.I_f nf, Nat.add_zero]
  obtain ⟨j, ej⟩ : ∃ j, v = s + j + 1 := ⟨v - s - 1, by have := h.gt; omega⟩
  have hf := h.full
  rw [ej] at hf
  rw [ej, Pm.cntF_succ, flat j (by omega), Pm.I_t hf]
theorem next_le {s v : Nat} (h : Pm.NextF s v) (hs : s ≤ 1000000) : v ≤ 1002001 := h.min 1002001 (by omega) (Pm.full_of (a := 1001) (b := 1) (by decide) (by decide))
theorem cntFr_more (n e : Nat) : Pm.cntFr n e ≤ Pm.cntFr n (e + 1) := Pm.S_mono fun x _ => by
  by_cases c : 1 ≤ x ∧ Pm.Free x e
  · rw [Pm.I_t c, Pm.I_t ⟨c.1, fun p hp => by have := c.2 p hp; omega⟩]
    exact Nat.le_refl 1
  · rw [Pm.I_f c]
    exact Nat.zero_le _
theorem I_full (n : Nat) : (if fullB n = true then (1 : Int) else 0) = ((Pm.I (Pm.Full n) : Nat) : Int) := by
  by_cases c : Pm.Full n
  · rw [Pm.I_t c, if_pos (fullB_iff.mpr c)]
    rfl
  · rw [Pm.I_f c, if_neg fun z => c (fullB_iff.mp z)]
    rfl
theorem I_free (n e : Nat) : (if freeB n e = true then (1 : Int) else 0) = ((Pm.I (Pm.Free n e) : Nat) : Int) := by
  by_cases c : Pm.Free n e
  · rw [Pm.I_t c, if_pos (freeB_iff.mpr c)]
    rfl
  · rw [Pm.I_f c, if_neg fun z => c (freeB_iff.mp z)]
    rfl
section
variable {P : Program} {w : World} {K : PySem.W.Frag} {mg : Str → Option Value} {base : Heap}
theorem ok_law_counts_right (F : Pl K mg "_law_counts_right" s_law_counts_right ["deck", "most"]) (B : Bl mg) (D_law_draw : Def P w K mg base 1 "_law_draw" ["deck", "most"] spDrawB)
    (D_is_full : Def P w K mg base 7 "is_full" ["number"] spIsFull) (D_count_full : Def P w K mg base 5 "count_full" ["most"] spCountF) (D_next_full : Def P w K mg base 5 "next_full" ["number"] spNextF) (D_is_free : Def P w K mg base 7 "is_free" ["number", "exponent"] spIsFree) (D_count_free : Def P w K mg base 5 "count_free" ["most", "exponent"] spCountFr) : Def P w K mg base 8 "_law_counts_right" ["deck", "most"] spParts := by
  refine F.ok sc_law_counts_right (fun vs H Q E h => ?_) (fun f cdv A outer s H vs Q E hr h => ?_)
  · obtain ⟨d, n, k, rfl, _⟩ := h
    rfl
  · obtain ⟨d, n, k, rfl, n1, nb, D0, hk, q⟩ := h
    have n60 : n < 2 ^ 60 := Nat.lt_of_le_of_lt nb (by decide)
    refine ⟨_, (pss_cons (ps_set (i := 2) sc_law_counts_right.nd rfl (Or.inl rfl) (pe_callB (cr_min2 rfl) (by rfl) B.min (by decide +kernel) (pa_cons (pv 1) (pa_cons (pe_op op_pow pe_int pe_int) pa_nil))))
      (pss_cons (ps_set (i := 3) sc_law_counts_right.nd rfl (Or.inl rfl) (pe_df D_next_full hr (by rfl) (pa_cons (pv 2) pa_nil)))
      (pss_cons (ps_if (PW.pt (pw_or (pt_not (pt_val (pe_df D_is_full hr (by rfl) (pa_cons (pv 3) pa_nil)))) (pw_or1 (pt_cmpR op_ne (pe_df D_count_full hr (by rfl) (pa_cons (pv 3) pa_nil)) (pe_op op_add (pe_df D_count_full hr (by rfl) (pa_cons (pv 2) pa_nil)) pe_int) (nomark _))))) (pss_one (ps_ret pe_bl)) pss_nil)
      (pss_cons (ps_if (PW.pt (pw_and (pt_cmpR op_gt (pe_op op_sub (pv 3) pe_int) (pv 2) (nomark _)) (pw_and1 (pt_val (pe_df D_is_full hr (by rfl) (pa_cons (pe_op op_sub (pv 3) pe_int) pa_nil)))))) (pss_one (ps_ret pe_bl)) pss_nil)
      (pss_cons (ps_set (i := 4) sc_law_counts_right.nd rfl (Or.inl rfl) (pe_callB (cr_min2 rfl) (by rfl) B.min (by decide +kernel) (pa_cons (pv 1) (pa_cons (pe_op op_sub (pe_op op_pow pe_int pe_int) pe_int) pa_nil))))
      (pss_cons (ps_set (i := 5) sc_law_counts_right.nd rfl (Or.inl rfl) (pe_op op_add pe_int (pe_df D_law_draw hr (by rfl) (pa_cons (pv 0) (pa_cons pe_int pa_nil)))))
      (pss_cons (ps_if (pt_cmpR op_gt (pe_df D_count_free hr (by rfl) (pa_cons (pv 4) (pa_cons (pv 5) pa_nil))) (pe_df D_count_free hr (by rfl) (pa_cons (pv 4) (pa_cons (pe_op op_add (pv 5) pe_int) pa_nil))) (nomark _)) (pss_one (ps_ret pe_bl)) pss_nil)
      (pss_cons (ps_if (pt_cmpR op_ne (pe_op op_sub (pe_df D_count_free hr (by rfl) (pa_cons (pe_op op_add (pv 4) pe_int) (pa_cons (pv 5) pa_nil))) (pe_df D_count_free hr (by rfl) (pa_cons (pv 4) (pa_cons (pv 5) pa_nil)))) (pe_callTy call_int1 (by rfl) B.int (by decide +kernel) (pa_cons (pe_df D_is_free hr (by rfl) (pa_cons (pe_op op_add (pv 4) pe_int) (pa_cons (pv 5) pa_nil))) pa_nil)) (nomark _)) (pss_one (ps_ret pe_bl)) pss_nil)
      (pss_one (ps_ret (pe_cmpR op_eq (pe_op op_sub (pe_df D_count_full hr (by rfl) (pa_cons (pv 1) pa_nil)) (pe_df D_count_full hr (by rfl) (pa_cons (pe_op op_sub (pv 1) pe_int) pa_nil))) (pe_callTy call_int1 (by rfl) B.int (by decide +kernel) (pa_cons (pe_df D_is_full hr (by rfl) (pa_cons (pv 1) pa_nil)) pa_nil)) (nomark _)))))))))))), ?_⟩
    refine at_st [some (.ref d), some (.int n), none, none, none, none] rfl ?_
    try simp only [cxK, cxK2]
    refine oa_seq (fun σ' G => ∃ s : Nat, σ' = [some (.ref d), some (.int n), some (.int (s : Int)), none, none, none] ∧ s ≤ 1000000 ∧ G = H) (fun N hN => ?_) ?_
    · walk_at "pw"
      obtain ⟨s, es, sb⟩ : ∃ s : Nat, (if (1000000 : Int) < (n : Int) then (1000000 : Int) else (n : Int)) = (s : Int) ∧ s ≤ 1000000 := by
        by_cases c : (1000000 : Int) < (n : Int)
        · exact ⟨1000000, if_pos c, Nat.le_refl _⟩
        · exact ⟨n, if_neg c, by omega⟩
      rw [es]
      exact hN _ _ ⟨s, rfl, sb, rfl⟩
    rintro σ' G1 ⟨s, rfl, sb, rfl⟩
    refine oa_seq (fun σ' G => ∃ v : Nat, σ' = [some (.ref d), some (.int n), some (.int (s : Int)), some (.int (v : Int)), none, none] ∧ Pm.NextF s v ∧ Same G1 G) (fun N hN => ?_) ?_
    · walk_at "pw"
      refine ⟨s, rfl, by omega, fun v G2 hv s2 => ?_⟩
      walk_at "pw"
      exact hN _ _ ⟨v, rfl, hv, s2⟩
    rintro σ' G2 ⟨v, rfl, hv, s2⟩
    have vb := next_le hv sb
    have vgt := hv.gt
    refine oa_seq (fun σ' G => σ' = [some (.ref d), some (.int n), some (.int (s : Int)), some (.int (v : Int)), none, none] ∧ Same G1 G) (fun N hN => ?_) ?_
    · walk_at "pw"
      refine ⟨v, rfl, by omega, by omega, fun G3 s3 => ?_⟩
      rw [fullB_iff.mpr hv.full]
      walk_at "pw"
      refine ⟨v, rfl, by omega, fun G4 s4 => ?_⟩
      walk_at "pw"
      refine ⟨s, rfl, by omega, fun G5 s5 => ?_⟩
      walk_at "pw"
      rw [cntF_next hv, show ((Pm.cntF s + 1 : Nat) : Int) = ((Pm.cntF s : Nat) : Int) + 1 by push_cast; rfl]
      refine r_iteN (fun z => absurd rfl z) (fun _ => ?_)
      walk_at "pw"
      exact hN _ _ ⟨rfl, s2.trans (s3.trans (s4.trans s5))⟩
    rintro σ' G3 ⟨rfl, s3⟩
    refine oa_seq (fun σ' G => σ' = [some (.ref d), some (.int n), some (.int (s : Int)), some (.int (v : Int)), none, none] ∧ Same G1 G) (fun N hN => ?_) ?_
    · walk_at "pw"
      refine r_ite (fun z => ?_) (fun z => ?_)
      · walk_at "pw"
        rw [show (v : Int) - 1 = ((v - 1 : Nat) : Int) by omega]
        refine ⟨v - 1, rfl, by omega, by omega, fun G4 s4 => ?_⟩
        have nf : fullB (v - 1) = false := Bool.eq_false_iff.mpr fun y => by
          have := hv.min (v - 1) (by omega) (fullB_iff.mp y)
          omega
        rw [nf]
        walk_at "pw"
        exact hN _ _ ⟨rfl, s3.trans s4⟩
      · walk_at "pw"
        exact hN _ _ ⟨rfl, s3⟩
    rintro σ' G4 ⟨rfl, s4⟩
    refine oa_seq (fun σ' G => ∃ r : Nat, σ' = [some (.ref d), some (.int n), some (.int (s : Int)), some (.int (v : Int)), some (.int (r : Int)), none] ∧ r ≤ 999999999 ∧ G = G4) (fun N hN => ?_) ?_
    · walk_at "pw"
      obtain ⟨r, er, rb⟩ : ∃ r : Nat, (if (1000000000 : Int) - 1 < (n : Int) then (1000000000 : Int) - 1 else (n : Int)) = (r : Int) ∧ r ≤ 999999999 := by
        by_cases c : (1000000000 : Int) - 1 < (n : Int)
        · exact ⟨999999999, by rw [if_pos c]; rfl, Nat.le_refl _⟩
        · exact ⟨n, if_neg c, by omega⟩
      rw [er]
      exact hN _ _ ⟨r, rfl, rb, rfl⟩
    rintro σ' G5 ⟨r, rfl, rb, rfl⟩
    refine oa_seq (fun σ' G => ∃ e : Nat, σ' = [some (.ref d), some (.int n), some (.int (s : Int)), some (.int (v : Int)), some (.int (r : Int)), some (.int (e : Int))] ∧ 2 ≤ e ∧ e ≤ 6 ∧ Keep d G1 G ∧ DkAt G d (k + 1)) (fun N hN => ?_) ?_
    · walk_at "pw"
      refine ⟨_, _, _, rfl, by decide, by decide, D0.same s4, by omega, fun r1 H9 r10 r11 k1 D9 => ?_⟩
      walk_at "pw"
      obtain ⟨e, e1⟩ : ∃ e : Nat, 2 + r1 = (e : Int) := ⟨(2 + r1).toNat, by omega⟩
      rw [e1]
      exact hN _ _ ⟨e, rfl, by omega, by omega, (Keep.of s4).trans k1, D9⟩
    rintro σ' G6 ⟨e, rfl, e2, e6, k6, D6⟩
    refine oa_seq (fun σ' G => σ' = [some (.ref d), some (.int n), some (.int (s : Int)), some (.int (v : Int)), some (.int (r : Int)), some (.int (e : Int))] ∧ Same G6 G) (fun N hN => ?_) ?_
    · walk_at "pw"
      refine ⟨r, e, rfl, by omega, e2, by omega, fun G7 s7 => ?_⟩
      walk_at "pw"
      refine ⟨r, e + 1, by push_cast; rfl, by omega, by omega, by omega, fun G8 s8 => ?_⟩
      have := cntFr_more r e
      walk_at "pw"
      refine r_ite (fun z => by omega) (fun z => ?_)
      walk_at "pw"
      exact hN _ _ ⟨rfl, s7.trans s8⟩
    rintro σ' G7 ⟨rfl, s7⟩
    refine oa_seq (fun σ' G => σ' = [some (.ref d), some (.int n), some (.int (s : Int)), some (.int (v : Int)), some (.int (r : Int)), some (.int (e : Int))] ∧ Same G6 G) (fun N hN => ?_) ?_
    · walk_at "pw"
      refine ⟨r + 1, e, by push_cast; rfl, by omega, e2, by omega, fun G8 s8 => ?_⟩
      walk_at "pw"
      refine ⟨r, e, rfl, by omega, e2, by omega, fun G9 s9 => ?_⟩
      walk_at "pw"
      refine ⟨r + 1, e, by push_cast; rfl, by omega, by omega, e2, by omega, fun G10 s10 => ?_⟩
      walk_at "pw"
      refine .inr ⟨_, rfl, ?_⟩
      rw [I_free, Pm.cntFr_succ]
      rw [show ((Pm.cntFr r e + Pm.I (Pm.Free (r + 1) e) : Nat) : Int) - ((Pm.cntFr r e : Nat) : Int) = ((Pm.I (Pm.Free (r + 1) e) : Nat) : Int) by omega]
      refine r_neI ?_
      refine ⟨_, rfl, ?_⟩
      refine r_iteN (fun z => absurd rfl z) (fun _ => ?_)
      walk_at "pw"
      exact hN _ _ ⟨rfl, s7.trans (s8.trans (s9.trans s10))⟩
    rintro σ' G8 ⟨rfl, s8⟩
    walk_at "pw"
    refine ⟨n, rfl, nb, fun G9 s9 => ?_⟩
    walk_at "pw"
    rw [show (n : Int) - 1 = ((n - 1 : Nat) : Int) by omega]
    refine ⟨n - 1, rfl, by omega, fun G10 s10 => ?_⟩
    walk_at "pw"
    refine ⟨n, rfl, n1, n60, fun G11 s11 => ?_⟩
    walk_at "pw"
    refine .inr ⟨_, rfl, ?_⟩
    have ec : Pm.cntF n = Pm.cntF (n - 1) + Pm.I (Pm.Full n) := by
      have := Pm.cntF_succ (n - 1)
      rwa [show n - 1 + 1 = n by omega] at this
    rw [I_full, ec]
    rw [show ((Pm.cntF (n - 1) + Pm.I (Pm.Full n) : Nat) : Int) - ((Pm.cntF (n - 1) : Nat) : Int) = ((Pm.I (Pm.Full n) : Nat) : Int) by omega]
    walk_at "pw"
    rw [decide_eq_true rfl]
    exact q G11 (k6.trans (Keep.of (s8.trans (s9.trans (s10.trans s11))))) ((((D6.same s8).same s9).same s10).same s11 |>.mono (by omega))
theorem ok_law {fl : Addr} {fdl : FuncData} (F : Fun K "law" "law" s_law fl fdl) (B : Bl mg)
    (D_law_deck : Def P w K mg base 1 "_law_deck" ["script"] (spDeckB K)) (D_law_number : Def P w K mg base 3 "_law_number" ["deck", "most"] spNum24) (D_law_parts_right : Def P w K mg base 8 "_law_parts_right" ["deck", "number"] spParts) (D_law_counts_right : Def P w K mg base 8 "_law_counts_right" ["deck", "most"] spParts) :
    FnOk P w K mg base CX0 9 fl fdl ["script"] (spLawB K) := by
  refine F.ok sc_law (fun vs H Q E h => ?_) (fun cdv A outer s H vs Q E hr h => ?_)
  · obtain ⟨a, ns, rfl, _⟩ := h
    rfl
  · obtain ⟨a, ns, rfl, hS, hlen, hb, qq⟩ := h
    refine ⟨_, (pss_cons (ps_set (i := 1) sc_law.nd rfl (Or.inl rfl) (pe_df D_law_deck hr (by rfl) (pa_cons (pv 0) pa_nil)))
      (pss_cons (ps_for PassesOwn.never rfl (pi_range1 (by rfl) B.range (pa_cons pe_int pa_nil)) (pg_name (i := 2) sc_law.nd rfl (Or.inl rfl))
      (pss_cons (ps_set (i := 3) sc_law.nd rfl (Or.inl rfl) (pe_df D_law_number hr (by rfl) (pa_cons (pv 1) (pa_cons (pe_op op_pow pe_int pe_int) pa_nil))))
      (pss_one (ps_if (PW.pt (pw_or (pt_not (pt_val (pe_df D_law_parts_right hr (by rfl) (pa_cons (pv 1) (pa_cons (pv 3) pa_nil))))) (pw_or1 (pt_not (pt_val (pe_df D_law_counts_right hr (by rfl) (pa_cons (pv 1) (pa_cons (pe_df D_law_number hr (by rfl) (pa_cons (pv 1) (pa_cons (pe_op op_pow pe_int pe_int) pa_nil))) pa_nil)))))))) (pss_one (ps_ret pe_bl)) pss_nil))))
      (pss_one (ps_ret pe_bl)))), ?_⟩
    refine at_st [some (.ref a), none, none, none] rfl ?_
    walk_at "p0"
    refine ⟨a, ns, rfl, hS, hlen, hb, fun d H1 nd s1 D1 => ?_⟩
    walk_at "pw"
    refine ⟨by decide, by decide, for_range (fun i σ G => ∃ (v2 v3 : Option V), σ = [some (.ref a), some (.ref d), v2, v3] ∧ DkAt G d (200 * i)) ⟨_, _, rfl, D1⟩ ?_ ?_⟩
    · rintro i σ G hi ⟨v2, v3, rfl, D⟩
      have hi' : i < 5 := hi
      walk_at "pw"
      refine ⟨d, 1000000000000, _, rfl, by decide, by decide, D, by omega, fun n G1 n1 n2 k1 D1 => ?_⟩
      walk_at "pw"
      refine ⟨d, n, _, rfl, n1, n2, D1, by omega, fun G2 k2 D2 => ?_⟩
      walk_at "pw"
      refine ⟨d, 1000000000000, _, rfl, by decide, by decide, D2, by omega, fun m G3 m1 m2 k3 D3 => ?_⟩
      walk_at "pw"
      refine ⟨d, m, _, rfl, m1, m2, D3, by omega, fun G4 k4 D4 => ?_⟩
      walk_at "pw"
      exact ⟨_, _, rfl, D4.mono (by omega)⟩
    · rintro σ G ⟨v2, v3, rfl, D⟩
      walk_at "pw"
      exact qq _
end
end K24

namespace K24
open PySem PySem.Spec PyProof.Rows L2 Pw SX
section
theorem all_mk {l : PySem.W.OpenLaw} {w : World} {K : PySem.W.Frag} {h : Heap} {mg : Str → Option Value} {fa : Addr} (X : K.In h) (G : h.Ns mainGlobals mg) (hfa : mg "law" = some (.ref fa))
    {od0 an0 : Option Addr} {sl0 : Array (Option Value)} {oc0 kV0 dc0 pm0 cd0 ct0 : Value} {f0 : Addr}
    (a0 : PySem.W.nsIn K mainGlobals "root_of" = some (some (.ref f0))) (l0 : K.lookup f0 = some ⟨oc0, od0, .func (PySem.W.fnOf "root_of" "root_of" (defArgs s_root_of) (defBody s_root_of) (defScope s_root_of) .none kV0 dc0 pm0 an0 cd0 ct0), sl0⟩) (c0 : PySem.W.codeIn K cd0 "root_of" = true) (k0 : PySem.W.keepIn K (.ref f0) = true)
    {od1 an1 : Option Addr} {sl1 : Array (Option Value)} {oc1 kV1 dc1 pm1 cd1 ct1 : Value} {f1 : Addr}
    (a1 : PySem.W.nsIn K mainGlobals "_root" = some (some (.ref f1))) (l1 : K.lookup f1 = some ⟨oc1, od1, .func (PySem.W.fnOf "_root" "_root" (defArgs s_root) (defBody s_root) (defScope s_root) .none kV1 dc1 pm1 an1 cd1 ct1), sl1⟩) (c1 : PySem.W.codeIn K cd1 "_root" = true) (k1 : PySem.W.keepIn K (.ref f1) = true)
    {od2 an2 : Option Addr} {sl2 : Array (Option Value)} {oc2 kV2 dc2 pm2 cd2 ct2 : Value} {f2 : Addr}
    (a2 : PySem.W.nsIn K mainGlobals "_newton_step" = some (some (.ref f2))) (l2 : K.lookup f2 = some ⟨oc2, od2, .func (PySem.W.fnOf "_newton_step" "_newton_step" (defArgs s_newton_step) (defBody s_newton_step) (defScope s_newton_step) .none kV2 dc2 pm2 an2 cd2 ct2), sl2⟩) (c2 : PySem.W.codeIn K cd2 "_newton_step" = true) (k2 : PySem.W.keepIn K (.ref f2) = true)
    {od3 an3 : Option Addr} {sl3 : Array (Option Value)} {oc3 kV3 dc3 pm3 cd3 ct3 : Value} {f3 : Addr}
    (a3 : PySem.W.nsIn K mainGlobals "taken" = some (some (.ref f3))) (l3 : K.lookup f3 = some ⟨oc3, od3, .func (PySem.W.fnOf "taken" "taken" (defArgs s_taken) (defBody s_taken) (defScope s_taken) .none kV3 dc3 pm3 an3 cd3 ct3), sl3⟩) (c3 : PySem.W.codeIn K cd3 "taken" = true) (k3 : PySem.W.keepIn K (.ref f3) = true)
    {od4 an4 : Option Addr} {sl4 : Array (Option Value)} {oc4 kV4 dc4 pm4 cd4 ct4 : Value} {f4 : Addr}
    (a4 : PySem.W.nsIn K mainGlobals "next_prime" = some (some (.ref f4))) (l4 : K.lookup f4 = some ⟨oc4, od4, .func (PySem.W.fnOf "next_prime" "next_prime" (defArgs s_next_prime) (defBody s_next_prime) (defScope s_next_prime) .none kV4 dc4 pm4 an4 cd4 ct4), sl4⟩) (c4 : PySem.W.codeIn K cd4 "next_prime" = true) (k4 : PySem.W.keepIn K (.ref f4) = true)
    {od5 an5 : Option Addr} {sl5 : Array (Option Value)} {oc5 kV5 dc5 pm5 cd5 ct5 : Value} {f5 : Addr}
    (a5 : PySem.W.nsIn K mainGlobals "_is_prime" = some (some (.ref f5))) (l5 : K.lookup f5 = some ⟨oc5, od5, .func (PySem.W.fnOf "_is_prime" "_is_prime" (defArgs s_is_prime) (defBody s_is_prime) (defScope s_is_prime) .none kV5 dc5 pm5 an5 cd5 ct5), sl5⟩) (c5 : PySem.W.codeIn K cd5 "_is_prime" = true) (k5 : PySem.W.keepIn K (.ref f5) = true)
    {od6 an6 : Option Addr} {sl6 : Array (Option Value)} {oc6 kV6 dc6 pm6 cd6 ct6 : Value} {f6 : Addr}
    (a6 : PySem.W.nsIn K mainGlobals "parted" = some (some (.ref f6))) (l6 : K.lookup f6 = some ⟨oc6, od6, .func (PySem.W.fnOf "parted" "parted" (defArgs s_parted) (defBody s_parted) (defScope s_parted) .none kV6 dc6 pm6 an6 cd6 ct6), sl6⟩) (c6 : PySem.W.codeIn K cd6 "parted" = true) (k6 : PySem.W.keepIn K (.ref f6) = true)
    {od7 an7 : Option Addr} {sl7 : Array (Option Value)} {oc7 kV7 dc7 pm7 cd7 ct7 : Value} {f7 : Addr}
    (a7 : PySem.W.nsIn K mainGlobals "is_power" = some (some (.ref f7))) (l7 : K.lookup f7 = some ⟨oc7, od7, .func (PySem.W.fnOf "is_power" "is_power" (defArgs s_is_power) (defBody s_is_power) (defScope s_is_power) .none kV7 dc7 pm7 an7 cd7 ct7), sl7⟩) (c7 : PySem.W.codeIn K cd7 "is_power" = true) (k7 : PySem.W.keepIn K (.ref f7) = true)
    {od8 an8 : Option Addr} {sl8 : Array (Option Value)} {oc8 kV8 dc8 pm8 cd8 ct8 : Value} {f8 : Addr}
    (a8 : PySem.W.nsIn K mainGlobals "greatest_way" = some (some (.ref f8))) (l8 : K.lookup f8 = some ⟨oc8, od8, .func (PySem.W.fnOf "greatest_way" "greatest_way" (defArgs s_greatest_way) (defBody s_greatest_way) (defScope s_greatest_way) .none kV8 dc8 pm8 an8 cd8 ct8), sl8⟩) (c8 : PySem.W.codeIn K cd8 "greatest_way" = true) (k8 : PySem.W.keepIn K (.ref f8) = true)
    {od9 an9 : Option Addr} {sl9 : Array (Option Value)} {oc9 kV9 dc9 pm9 cd9 ct9 : Value} {f9 : Addr}
    (a9 : PySem.W.nsIn K mainGlobals "is_full" = some (some (.ref f9))) (l9 : K.lookup f9 = some ⟨oc9, od9, .func (PySem.W.fnOf "is_full" "is_full" (defArgs s_is_full) (defBody s_is_full) (defScope s_is_full) .none kV9 dc9 pm9 an9 cd9 ct9), sl9⟩) (c9 : PySem.W.codeIn K cd9 "is_full" = true) (k9 : PySem.W.keepIn K (.ref f9) = true)
    {od10 an10 : Option Addr} {sl10 : Array (Option Value)} {oc10 kV10 dc10 pm10 cd10 ct10 : Value} {f10 : Addr}
    (a10 : PySem.W.nsIn K mainGlobals "count_full" = some (some (.ref f10))) (l10 : K.lookup f10 = some ⟨oc10, od10, .func (PySem.W.fnOf "count_full" "count_full" (defArgs s_count_full) (defBody s_count_full) (defScope s_count_full) .none kV10 dc10 pm10 an10 cd10 ct10), sl10⟩) (c10 : PySem.W.codeIn K cd10 "count_full" = true) (k10 : PySem.W.keepIn K (.ref f10) = true)
    {od11 an11 : Option Addr} {sl11 : Array (Option Value)} {oc11 kV11 dc11 pm11 cd11 ct11 : Value} {f11 : Addr}
    (a11 : PySem.W.nsIn K mainGlobals "next_full" = some (some (.ref f11))) (l11 : K.lookup f11 = some ⟨oc11, od11, .func (PySem.W.fnOf "next_full" "next_full" (defArgs s_next_full) (defBody s_next_full) (defScope s_next_full) .none kV11 dc11 pm11 an11 cd11 ct11), sl11⟩) (c11 : PySem.W.codeIn K cd11 "next_full" = true) (k11 : PySem.W.keepIn K (.ref f11) = true)
    {od12 an12 : Option Addr} {sl12 : Array (Option Value)} {oc12 kV12 dc12 pm12 cd12 ct12 : Value} {f12 : Addr}
    (a12 : PySem.W.nsIn K mainGlobals "_next_square_times" = some (some (.ref f12))) (l12 : K.lookup f12 = some ⟨oc12, od12, .func (PySem.W.fnOf "_next_square_times" "_next_square_times" (defArgs s_next_square_times) (defBody s_next_square_times) (defScope s_next_square_times) .none kV12 dc12 pm12 an12 cd12 ct12), sl12⟩) (c12 : PySem.W.codeIn K cd12 "_next_square_times" = true) (k12 : PySem.W.keepIn K (.ref f12) = true)
    {od13 an13 : Option Addr} {sl13 : Array (Option Value)} {oc13 kV13 dc13 pm13 cd13 ct13 : Value} {f13 : Addr}
    (a13 : PySem.W.nsIn K mainGlobals "is_free" = some (some (.ref f13))) (l13 : K.lookup f13 = some ⟨oc13, od13, .func (PySem.W.fnOf "is_free" "is_free" (defArgs s_is_free) (defBody s_is_free) (defScope s_is_free) .none kV13 dc13 pm13 an13 cd13 ct13), sl13⟩) (c13 : PySem.W.codeIn K cd13 "is_free" = true) (k13 : PySem.W.keepIn K (.ref f13) = true)
    {od14 an14 : Option Addr} {sl14 : Array (Option Value)} {oc14 kV14 dc14 pm14 cd14 ct14 : Value} {f14 : Addr}
    (a14 : PySem.W.nsIn K mainGlobals "count_free" = some (some (.ref f14))) (l14 : K.lookup f14 = some ⟨oc14, od14, .func (PySem.W.fnOf "count_free" "count_free" (defArgs s_count_free) (defBody s_count_free) (defScope s_count_free) .none kV14 dc14 pm14 an14 cd14 ct14), sl14⟩) (c14 : PySem.W.codeIn K cd14 "count_free" = true) (k14 : PySem.W.keepIn K (.ref f14) = true)
    {od15 an15 : Option Addr} {sl15 : Array (Option Value)} {oc15 kV15 dc15 pm15 cd15 ct15 : Value} {f15 : Addr}
    (a15 : PySem.W.nsIn K mainGlobals "greatest_in" = some (some (.ref f15))) (l15 : K.lookup f15 = some ⟨oc15, od15, .func (PySem.W.fnOf "greatest_in" "greatest_in" (defArgs s_greatest_in) (defBody s_greatest_in) (defScope s_greatest_in) .none kV15 dc15 pm15 an15 cd15 ct15), sl15⟩) (c15 : PySem.W.codeIn K cd15 "greatest_in" = true) (k15 : PySem.W.keepIn K (.ref f15) = true)
    {od16 an16 : Option Addr} {sl16 : Array (Option Value)} {oc16 kV16 dc16 pm16 cd16 ct16 : Value} {f16 : Addr}
    (a16 : PySem.W.nsIn K mainGlobals "_signs_to" = some (some (.ref f16))) (l16 : K.lookup f16 = some ⟨oc16, od16, .func (PySem.W.fnOf "_signs_to" "_signs_to" (defArgs s_signs_to) (defBody s_signs_to) (defScope s_signs_to) .none kV16 dc16 pm16 an16 cd16 ct16), sl16⟩) (c16 : PySem.W.codeIn K cd16 "_signs_to" = true) (k16 : PySem.W.keepIn K (.ref f16) = true)
    {od17 an17 : Option Addr} {sl17 : Array (Option Value)} {oc17 kV17 dc17 pm17 cd17 ct17 : Value} {f17 : Addr}
    (a17 : PySem.W.nsIn K mainGlobals "_law_deck" = some (some (.ref f17))) (l17 : K.lookup f17 = some ⟨oc17, od17, .func (PySem.W.fnOf "_law_deck" "_law_deck" (defArgs s_law_deck) (defBody s_law_deck) (defScope s_law_deck) .none kV17 dc17 pm17 an17 cd17 ct17), sl17⟩) (c17 : PySem.W.codeIn K cd17 "_law_deck" = true) (k17 : PySem.W.keepIn K (.ref f17) = true)
    {od18 an18 : Option Addr} {sl18 : Array (Option Value)} {oc18 kV18 dc18 pm18 cd18 ct18 : Value} {f18 : Addr}
    (a18 : PySem.W.nsIn K mainGlobals "_law_draw" = some (some (.ref f18))) (l18 : K.lookup f18 = some ⟨oc18, od18, .func (PySem.W.fnOf "_law_draw" "_law_draw" (defArgs s_law_draw) (defBody s_law_draw) (defScope s_law_draw) .none kV18 dc18 pm18 an18 cd18 ct18), sl18⟩) (c18 : PySem.W.codeIn K cd18 "_law_draw" = true) (k18 : PySem.W.keepIn K (.ref f18) = true)
    {od19 an19 : Option Addr} {sl19 : Array (Option Value)} {oc19 kV19 dc19 pm19 cd19 ct19 : Value} {f19 : Addr}
    (a19 : PySem.W.nsIn K mainGlobals "_law_wide" = some (some (.ref f19))) (l19 : K.lookup f19 = some ⟨oc19, od19, .func (PySem.W.fnOf "_law_wide" "_law_wide" (defArgs s_law_wide) (defBody s_law_wide) (defScope s_law_wide) .none kV19 dc19 pm19 an19 cd19 ct19), sl19⟩) (c19 : PySem.W.codeIn K cd19 "_law_wide" = true) (k19 : PySem.W.keepIn K (.ref f19) = true)
    {od20 an20 : Option Addr} {sl20 : Array (Option Value)} {oc20 kV20 dc20 pm20 cd20 ct20 : Value} {f20 : Addr}
    (a20 : PySem.W.nsIn K mainGlobals "_law_number" = some (some (.ref f20))) (l20 : K.lookup f20 = some ⟨oc20, od20, .func (PySem.W.fnOf "_law_number" "_law_number" (defArgs s_law_number) (defBody s_law_number) (defScope s_law_number) .none kV20 dc20 pm20 an20 cd20 ct20), sl20⟩) (c20 : PySem.W.codeIn K cd20 "_law_number" = true) (k20 : PySem.W.keepIn K (.ref f20) = true)
    {od21 an21 : Option Addr} {sl21 : Array (Option Value)} {oc21 kV21 dc21 pm21 cd21 ct21 : Value} {f21 : Addr}
    (a21 : PySem.W.nsIn K mainGlobals "_law_parts_right" = some (some (.ref f21))) (l21 : K.lookup f21 = some ⟨oc21, od21, .func (PySem.W.fnOf "_law_parts_right" "_law_parts_right" (defArgs s_law_parts_right) (defBody s_law_parts_right) (defScope s_law_parts_right) .none kV21 dc21 pm21 an21 cd21 ct21), sl21⟩) (c21 : PySem.W.codeIn K cd21 "_law_parts_right" = true) (k21 : PySem.W.keepIn K (.ref f21) = true)
    {od22 an22 : Option Addr} {sl22 : Array (Option Value)} {oc22 kV22 dc22 pm22 cd22 ct22 : Value} {f22 : Addr}
    (a22 : PySem.W.nsIn K mainGlobals "_law_counts_right" = some (some (.ref f22))) (l22 : K.lookup f22 = some ⟨oc22, od22, .func (PySem.W.fnOf "_law_counts_right" "_law_counts_right" (defArgs s_law_counts_right) (defBody s_law_counts_right) (defScope s_law_counts_right) .none kV22 dc22 pm22 an22 cd22 ct22), sl22⟩) (c22 : PySem.W.codeIn K cd22 "_law_counts_right" = true) (k22 : PySem.W.keepIn K (.ref f22) = true)
    {od23 an23 : Option Addr} {sl23 : Array (Option Value)} {oc23 kV23 dc23 pm23 cd23 ct23 : Value} {f23 : Addr}
    (a23 : PySem.W.nsIn K mainGlobals "law" = some (some (.ref f23))) (l23 : K.lookup f23 = some ⟨oc23, od23, .func (PySem.W.fnOf "law" "law" (defArgs s_law) (defBody s_law) (defScope s_law) .none kV23 dc23 pm23 an23 cd23 ct23), sl23⟩) (c23 : PySem.W.codeIn K cd23 "law" = true) (k23 : PySem.W.keepIn K (.ref f23) = true)
    (z_all : PySem.W.nsIn K mainGlobals "all" = some none)
    (z_len : PySem.W.nsIn K mainGlobals "len" = some none)
    (z_range : PySem.W.nsIn K mainGlobals "range" = some none)
    (z_sum : PySem.W.nsIn K mainGlobals "sum" = some none)
    (z_min : PySem.W.nsIn K mainGlobals "min" = some none)
    (z_max : PySem.W.nsIn K mainGlobals "max" = some none)
    (z_reversed : PySem.W.nsIn K mainGlobals "reversed" = some none)
    (z_isinstance : PySem.W.nsIn K mainGlobals "isinstance" = some none)
    (z_int : PySem.W.nsIn K mainGlobals "int" = some none)
    (z_bool : PySem.W.nsIn K mainGlobals "bool" = some none)
    (z_tuple : PySem.W.nsIn K mainGlobals "tuple" = some none)
    (z_list : PySem.W.nsIn K mainGlobals "list" = some none)
    (z_str : PySem.W.nsIn K mainGlobals "str" = some none)
    (z_sorted : PySem.W.nsIn K mainGlobals "sorted" = some none)
    (z_divmod : PySem.W.nsIn K mainGlobals "divmod" = some none)
    (z_enumerate : PySem.W.nsIn K mainGlobals "enumerate" = some none)
    (z_abs : PySem.W.nsIn K mainGlobals "abs" = some none)
    (z_zip : PySem.W.nsIn K mainGlobals "zip" = some none)
    (z_set : PySem.W.nsIn K mainGlobals "set" = some none)
    (z_dict : PySem.W.nsIn K mainGlobals "dict" = some none)
    (y_isqrt : PySem.W.nsIn K mainGlobals "isqrt" = some (some (.builtin "math.isqrt"))) :
    ∃ fd : FuncData, (∀ (s : Shared) (v : Value), BindsTo s fd ⟨[v], []⟩ [("script", v)]) ∧ ∀ base : Heap, K.In base → base.Ns mainGlobals mg → FnOk l.prog w K mg base CX0 9 fa fd ["script"] (spLawB K) := by
  have e := hfa.symm.trans (PySem.W.mg_of X G a23)
  cases e
  have B : Bl mg := ⟨PySem.W.mg_none_of X G z_len, PySem.W.mg_none_of X G z_range, PySem.W.mg_none_of X G z_sum, PySem.W.mg_none_of X G z_min, PySem.W.mg_none_of X G z_max, PySem.W.mg_none_of X G z_reversed, PySem.W.mg_none_of X G z_isinstance, PySem.W.mg_none_of X G z_int, PySem.W.mg_none_of X G z_bool, PySem.W.mg_none_of X G z_tuple, PySem.W.mg_none_of X G z_list, PySem.W.mg_none_of X G z_str, PySem.W.mg_none_of X G z_sorted, PySem.W.mg_none_of X G z_divmod, PySem.W.mg_none_of X G z_enumerate, PySem.W.mg_none_of X G z_abs, PySem.W.mg_none_of X G z_zip, PySem.W.mg_none_of X G z_set, PySem.W.mg_none_of X G z_dict⟩
  have M_isqrt := PySem.W.mg_of X G y_isqrt
  have P_root_of : Pl K mg "root_of" s_root_of ["number", "exponent"] := pl_mk X G a0 l0 c0 k0 fun _ _ _ _ _ _ us hl => match us, hl with | [_, _], _ => rfl
  have P_root : Pl K mg "_root" s_root ["number", "exponent"] := pl_mk X G a1 l1 c1 k1 fun _ _ _ _ _ _ us hl => match us, hl with | [_, _], _ => rfl
  have P_newton_step : Pl K mg "_newton_step" s_newton_step ["number", "exponent", "root"] := pl_mk X G a2 l2 c2 k2 fun _ _ _ _ _ _ us hl => match us, hl with | [_, _, _], _ => rfl
  have P_taken : Pl K mg "taken" s_taken ["base", "exponent"] := pl_mk X G a3 l3 c3 k3 fun _ _ _ _ _ _ us hl => match us, hl with | [_, _], _ => rfl
  have P_next_prime : Pl K mg "next_prime" s_next_prime ["number"] := pl_mk X G a4 l4 c4 k4 fun _ _ _ _ _ _ us hl => match us, hl with | [_], _ => rfl
  have P_is_prime : Pl K mg "_is_prime" s_is_prime ["number"] := pl_mk X G a5 l5 c5 k5 fun _ _ _ _ _ _ us hl => match us, hl with | [_], _ => rfl
  have P_parted : Pl K mg "parted" s_parted ["number", "many"] := pl_mk X G a6 l6 c6 k6 fun _ _ _ _ _ _ us hl => match us, hl with | [_, _], _ => rfl
  have P_is_power : Pl K mg "is_power" s_is_power ["number"] := pl_mk X G a7 l7 c7 k7 fun _ _ _ _ _ _ us hl => match us, hl with | [_], _ => rfl
  have P_greatest_way : Pl K mg "greatest_way" s_greatest_way ["number"] := pl_mk X G a8 l8 c8 k8 fun _ _ _ _ _ _ us hl => match us, hl with | [_], _ => rfl
  have P_is_full : Pl K mg "is_full" s_is_full ["number"] := pl_mk X G a9 l9 c9 k9 fun _ _ _ _ _ _ us hl => match us, hl with | [_], _ => rfl
  have P_count_full : Pl K mg "count_full" s_count_full ["most"] := pl_mk X G a10 l10 c10 k10 fun _ _ _ _ _ _ us hl => match us, hl with | [_], _ => rfl
  have P_next_full : Pl K mg "next_full" s_next_full ["number"] := pl_mk X G a11 l11 c11 k11 fun _ _ _ _ _ _ us hl => match us, hl with | [_], _ => rfl
  have P_next_square_times : Pl K mg "_next_square_times" s_next_square_times ["number", "factor"] := pl_mk X G a12 l12 c12 k12 fun _ _ _ _ _ _ us hl => match us, hl with | [_, _], _ => rfl
  have P_is_free : Pl K mg "is_free" s_is_free ["number", "exponent"] := pl_mk X G a13 l13 c13 k13 fun _ _ _ _ _ _ us hl => match us, hl with | [_, _], _ => rfl
  have P_count_free : Pl K mg "count_free" s_count_free ["most", "exponent"] := pl_mk X G a14 l14 c14 k14 fun _ _ _ _ _ _ us hl => match us, hl with | [_, _], _ => rfl
  have P_greatest_in : Pl K mg "greatest_in" s_greatest_in ["number", "exponent"] := pl_mk X G a15 l15 c15 k15 fun _ _ _ _ _ _ us hl => match us, hl with | [_, _], _ => rfl
  have P_signs_to : Pl K mg "_signs_to" s_signs_to ["most"] := pl_mk X G a16 l16 c16 k16 fun _ _ _ _ _ _ us hl => match us, hl with | [_], _ => rfl
  have P_law_deck : Pl K mg "_law_deck" s_law_deck ["script"] := pl_mk X G a17 l17 c17 k17 fun _ _ _ _ _ _ us hl => match us, hl with | [_], _ => rfl
  have P_law_draw : Pl K mg "_law_draw" s_law_draw ["deck", "most"] := pl_mk X G a18 l18 c18 k18 fun _ _ _ _ _ _ us hl => match us, hl with | [_, _], _ => rfl
  have P_law_wide : Pl K mg "_law_wide" s_law_wide ["deck", "most"] := pl_mk X G a19 l19 c19 k19 fun _ _ _ _ _ _ us hl => match us, hl with | [_, _], _ => rfl
  have P_law_number : Pl K mg "_law_number" s_law_number ["deck", "most"] := pl_mk X G a20 l20 c20 k20 fun _ _ _ _ _ _ us hl => match us, hl with | [_, _], _ => rfl
  have P_law_parts_right : Pl K mg "_law_parts_right" s_law_parts_right ["deck", "number"] := pl_mk X G a21 l21 c21 k21 fun _ _ _ _ _ _ us hl => match us, hl with | [_, _], _ => rfl
  have P_law_counts_right : Pl K mg "_law_counts_right" s_law_counts_right ["deck", "most"] := pl_mk X G a22 l22 c22 k22 fun _ _ _ _ _ _ us hl => match us, hl with | [_, _], _ => rfl
  have M_all := PySem.W.mg_none_of X G z_all
  have F := fun_mk (st := s_law) l23 c23 k23
  refine ⟨PySem.W.fnOf "law" "law" (defArgs s_law) (defBody s_law) (defScope s_law) .none kV23 dc23 pm23 an23 cd23 ct23, fun s v => .of_eq rfl, fun base _ _ => ?_⟩
  have D1 := ok_taken (P := l.prog) (w := w) (base := base) P_taken B
  have D2 := ok_newton_step P_newton_step D1
  have D3 := ok_root P_root M_isqrt D2
  have D4 := ok_root_of P_root_of D3 D1
  have D5 := ok_parted P_parted D4
  have E5 := ok_is_prime (P := l.prog) (w := w) (base := base) P_is_prime B M_isqrt
  have E6 := ok_next_prime P_next_prime E5
  have E7 := ok_greatest_way P_greatest_way D4 E6
  have E8 := ok_is_power P_is_power E7
  have N1 := ok_is_full P_is_full B M_all D5 E8
  have SG := ok_signs_to (P := l.prog) (w := w) (base := base) P_signs_to B
  have CF := ok_count_full P_count_full B M_isqrt D4 SG
  have NS := ok_next_square_times (P := l.prog) (w := w) (base := base) P_next_square_times M_isqrt
  have NF := ok_next_full P_next_full B D4 NS
  have N2 := ok_greatest_in P_greatest_in D5 D1 D4
  have N3 := ok_is_free P_is_free N2
  have N4 := ok_count_free P_count_free B D4 SG D1
  have D10 := ok_law_deck (P := l.prog) (w := w) (base := base) P_law_deck B
  have D11 := ok_law_draw (P := l.prog) (w := w) (base := base) P_law_draw
  have D12 := ok_law_wide P_law_wide D11
  have D13 := ok_law_number P_law_number B D11 D12 D1
  have W1 := ok_law_parts_right P_law_parts_right B D11 D13 D1 N1 E8 N2 N3
  have W2 := ok_law_counts_right P_law_counts_right B D11 N1 CF NF N3 N4
  exact ok_law F B D10 D13 W1 W2
end
end K24
open PySem PySem.W PyProof.Rows
set_option maxRecDepth 100000 in
set_option maxHeartbeats 0 in
theorem PySem.Challenge.cw_powernumbers_k24_whole_kin_holds : PySem.Challenge.rw_powernumbers_k24_whole_kin.Holds := by
  w_on; o_law; k_head; (case hw => w_witness2)
  k_fill
  refine L2.walk_ofB (l := PySem.Challenge.rw_powernumbers_k24_whole_kin) (n := 63) (k := 9) (x := "script") (CX := fun _ => L2.CX0) (sp := fun w => Pw.spLawB _) rfl (by decide) rfl ⟨rfl, by decide, by decide⟩ (fun w h Y => PySem.W.kIn_of Y) ?F (fun _ _ a ns hl hb _ hS => ⟨a, ns, rfl, hS, hl, hb, fun _ => rfl⟩) (fun _ _ _ _ _ h => h)
  case F =>
    intro w mg fa h KX G hmg
    refine' K24.all_mk KX G hmg ?a0 ?l0 ?c0 ?k0 ?a1 ?l1 ?c1 ?k1 ?a2 ?l2 ?c2 ?k2 ?a3 ?l3 ?c3 ?k3 ?a4 ?l4 ?c4 ?k4 ?a5 ?l5 ?c5 ?k5 ?a6 ?l6 ?c6 ?k6 ?a7 ?l7 ?c7 ?k7 ?a8 ?l8 ?c8 ?k8 ?a9 ?l9 ?c9 ?k9 ?a10 ?l10 ?c10 ?k10 ?a11 ?l11 ?c11 ?k11 ?a12 ?l12 ?c12 ?k12 ?a13 ?l13 ?c13 ?k13 ?a14 ?l14 ?c14 ?k14 ?a15 ?l15 ?c15 ?k15 ?a16 ?l16 ?c16 ?k16 ?a17 ?l17 ?c17 ?k17 ?a18 ?l18 ?c18 ?k18 ?a19 ?l19 ?c19 ?k19 ?a20 ?l20 ?c20 ?k20 ?a21 ?l21 ?c21 ?k21 ?a22 ?l22 ?c22 ?k22 ?a23 ?l23 ?c23 ?k23 ?z_all ?z_len ?z_range ?z_sum ?z_min ?z_max ?z_reversed ?z_isinstance ?z_int ?z_bool ?z_tuple ?z_list ?z_str ?z_sorted ?z_divmod ?z_enumerate ?z_abs ?z_zip ?z_set ?z_dict ?y_isqrt
    (case a0 => k_is)
    (case l0 => k_is)
    (case c0 => k_is)
    (case k0 => k_is)
    (case a1 => k_is)
    (case l1 => k_is)
    (case c1 => k_is)
    (case k1 => k_is)
    (case a2 => k_is)
    (case l2 => k_is)
    (case c2 => k_is)
    (case k2 => k_is)
    (case a3 => k_is)
    (case l3 => k_is)
    (case c3 => k_is)
    (case k3 => k_is)
    (case a4 => k_is)
    (case l4 => k_is)
    (case c4 => k_is)
    (case k4 => k_is)
    (case a5 => k_is)
    (case l5 => k_is)
    (case c5 => k_is)
    (case k5 => k_is)
    (case a6 => k_is)
    (case l6 => k_is)
    (case c6 => k_is)
    (case k6 => k_is)
    (case a7 => k_is)
    (case l7 => k_is)
    (case c7 => k_is)
    (case k7 => k_is)
    (case a8 => k_is)
    (case l8 => k_is)
    (case c8 => k_is)
    (case k8 => k_is)
    (case a9 => k_is)
    (case l9 => k_is)
    (case c9 => k_is)
    (case k9 => k_is)
    (case a10 => k_is)
    (case l10 => k_is)
    (case c10 => k_is)
    (case k10 => k_is)
    (case a11 => k_is)
    (case l11 => k_is)
    (case c11 => k_is)
    (case k11 => k_is)
    (case a12 => k_is)
    (case l12 => k_is)
    (case c12 => k_is)
    (case k12 => k_is)
    (case a13 => k_is)
    (case l13 => k_is)
    (case c13 => k_is)
    (case k13 => k_is)
    (case a14 => k_is)
    (case l14 => k_is)
    (case c14 => k_is)
    (case k14 => k_is)
    (case a15 => k_is)
    (case l15 => k_is)
    (case c15 => k_is)
    (case k15 => k_is)
    (case a16 => k_is)
    (case l16 => k_is)
    (case c16 => k_is)
    (case k16 => k_is)
    (case a17 => k_is)
    (case l17 => k_is)
    (case c17 => k_is)
    (case k17 => k_is)
    (case a18 => k_is)
    (case l18 => k_is)
    (case c18 => k_is)
    (case k18 => k_is)
    (case a19 => k_is)
    (case l19 => k_is)
    (case c19 => k_is)
    (case k19 => k_is)
    (case a20 => k_is)
    (case l20 => k_is)
    (case c20 => k_is)
    (case k20 => k_is)
    (case a21 => k_is)
    (case l21 => k_is)
    (case c21 => k_is)
    (case k21 => k_is)
    (case a22 => k_is)
    (case l22 => k_is)
    (case c22 => k_is)
    (case k22 => k_is)
    (case a23 => k_is)
    (case l23 => k_is)
    (case c23 => k_is)
    (case k23 => k_is)
    (case z_all => k_is)
    (case z_len => k_is)
    (case z_range => k_is)
    (case z_sum => k_is)
    (case z_min => k_is)
    (case z_max => k_is)
    (case z_reversed => k_is)
    (case z_isinstance => k_is)
    (case z_int => k_is)
    (case z_bool => k_is)
    (case z_tuple => k_is)
    (case z_list => k_is)
    (case z_str => k_is)
    (case z_sorted => k_is)
    (case z_divmod => k_is)
    (case z_enumerate => k_is)
    (case z_abs => k_is)
    (case z_zip => k_is)
    (case z_set => k_is)
    (case z_dict => k_is)
    (case y_isqrt => k_is)
#print axioms PySem.Challenge.cw_powernumbers_k24_whole_kin_holds
