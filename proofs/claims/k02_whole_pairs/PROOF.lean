import PyProof.Rows.All
import Wide.All
import OpenK.AllK
import Wide.FinOn
import HandS.ForExc
import HandS.Wide
import HandS.WideBits
import HandS.Gcd
import HandS.IsInst
import HandS.Codes
import HandS.Style
import HandS.TupLe
import HandS.TupAny
import HandS.EndBits
import HandS.Evl
import HandS.LawCells
import HandS.Dict
import HandS.Iter
import HandS.Comp
import KE.DataMinMax
import KE.KMathG
import Flt.RightSqrt
import PySem.Challenge.RW_twoheaps_k02_whole_pairs
set_option Elab.async false
set_option linter.all false
set_option maxRecDepth 100000
set_option maxHeartbeats 4000000
namespace Th
/-! roots -/
def rtN : Nat → Nat
  | 0 => 0
  | n + 1 => if (rtN n + 1) * (rtN n + 1) ≤ n + 1 then rtN n + 1 else rtN n
theorem rtN_spec : ∀ n, rtN n * rtN n ≤ n ∧ n < (rtN n + 1) * (rtN n + 1)
  | 0 => by decide
  | n + 1 => by
    obtain ⟨h1, h2⟩ := rtN_spec n
    rw [rtN]
    split
    · rename_i c
      refine ⟨c, ?_⟩
      grind
    · omega
def rt (N : Int) : Int := (rtN N.toNat : Int)
theorem rt_nn (N : Int) : 0 ≤ rt N := Int.natCast_nonneg _
theorem rt_spec {N : Int} (h : 0 ≤ N) : rt N * rt N ≤ N ∧ N < (rt N + 1) * (rt N + 1) := by
  obtain ⟨h1, h2⟩ := rtN_spec N.toNat
  have e : ((N.toNat : Nat) : Int) = N := Int.toNat_of_nonneg h
  have h1' := Int.ofNat_le.mpr h1
  have h2' := Int.ofNat_lt.mpr h2
  rw [e] at h1' h2'
  unfold rt
  push_cast at h1' h2'
  exact ⟨h1', h2'⟩
theorem sq_le {x y : Int} (hx : 0 ≤ x) (h : x ≤ y) : x * x ≤ y * y := Int.mul_le_mul h h hx (by omega)
theorem sq_lt {x y : Int} (hx : 0 ≤ x) (h : x < y) : x * x < y * y := by
  have h1 : x * x ≤ x * y := Int.mul_le_mul_of_nonneg_left (by omega) hx
  have h2 : x * y < y * y := Int.mul_lt_mul_of_pos_right h (by omega)
  omega
theorem of_sq_le {x y : Int} (hy : 0 ≤ y) (h : x * x ≤ y * y) : x ≤ y := by
  by_cases c : x ≤ y
  · exact c
  · have := sq_lt hy (show y < x by omega)
    omega
theorem of_sq_lt {x y : Int} (hy : 0 ≤ y) (h : x * x < y * y) : x < y := by
  by_cases c : x < y
  · exact c
  · have := sq_le hy (show y ≤ x by omega)
    omega
theorem rt_uniq {N r : Int} (hr : 0 ≤ r) (h1 : r * r ≤ N) (h2 : N < (r + 1) * (r + 1)) : rt N = r := by
  have h0 : 0 ≤ r * r := Int.mul_nonneg hr hr
  obtain ⟨g1, g2⟩ := rt_spec (N := N) (by omega)
  have hn := rt_nn N
  have a := of_sq_lt (x := rt N) (y := r + 1) (by omega) (by omega)
  have b := of_sq_lt (x := r) (y := rt N + 1) (by omega) (by omega)
  omega
/-- t ≤ root N, for t from 0 on -/
theorem le_rt {N t : Int} (h : 0 ≤ N) (ht : 0 ≤ t) : t ≤ rt N ↔ t * t ≤ N := by
  obtain ⟨g1, g2⟩ := rt_spec h
  have hn := rt_nn N
  constructor
  · intro c
    have := sq_le ht c
    omega
  · intro c
    have := of_sq_lt (x := t) (y := rt N + 1) (by omega) (by omega)
    omega
theorem rt_lt {N t : Int} (h : 0 ≤ N) (ht : 0 ≤ t) : rt N < t ↔ N < t * t := by
  have := le_rt h ht
  omega
/-! the form -/
def G (b x z : Int) : Int := x * x + b * x * z - z * z
def D (b n : Int) : Int := n * n * (b * b + 4)
theorem D_nn (b n : Int) : 0 ≤ D b n := by
  have h1 : 0 ≤ n * n := by
    by_cases c : 0 ≤ n
    · exact Int.mul_nonneg c c
    · have := Int.mul_nonneg (show 0 ≤ -n by omega) (show 0 ≤ -n by omega)
      rwa [Int.neg_mul_neg] at this
  have h2 : 0 ≤ b * b := by
    by_cases c : 0 ≤ b
    · exact Int.mul_nonneg c c
    · have := Int.mul_nonneg (show 0 ≤ -b by omega) (show 0 ≤ -b by omega)
      rwa [Int.neg_mul_neg] at this
  exact Int.mul_nonneg h1 (by omega)
/-- the root is none of the fractions -/
theorem G_ne_nat (b : Int) (hb : 1 ≤ b) : ∀ (k : Nat) (z : Int), 0 ≤ z → G b ((k : Int) + 1) z ≠ 0 := by
  intro k
  induction k using Nat.strongRecOn with
  | ind k ih =>
    intro z hz h
    unfold G at h
    -- z (z - b m) = m m
    generalize hm : (k : Int) + 1 = m at h
    have hm1 : 1 ≤ m := by omega
    have hw : 0 < z - b * m := by
      by_cases c : 0 < z - b * m
      · exact c
      · have h1 : 0 ≤ z * (b * m - z) := Int.mul_nonneg hz (by omega)
        have h2 : 0 < m * m := Int.mul_pos (by omega) (by omega)
        grind
    have hwm : z - b * m < m := by
      by_cases c : z - b * m < m
      · exact c
      · have h0 : 0 < b * m := Int.mul_pos (by omega) (by omega)
        have h1 : m * m ≤ (z - b * m) * m := Int.mul_le_mul_of_nonneg_right (by omega) (by omega)
        have h2 : 0 < (z - b * m) * (z - m) := Int.mul_pos hw (by omega)
        grind
    refine ih (z - b * m - 1).toNat (by omega) m (by omega) ?_
    have e : (((z - b * m - 1).toNat : Nat) : Int) + 1 = z - b * m := by omega
    rw [e]
    unfold G
    grind
theorem G_ne {b x z : Int} (hb : 1 ≤ b) (hx : 1 ≤ x) (hz : 0 ≤ z) : G b x z ≠ 0 := by
  have := G_ne_nat b hb (x - 1).toNat z hz
  rwa [show (((x - 1).toNat : Nat) : Int) + 1 = x by omega] at this
/-! the pairs -/
def A (b n : Int) : Int := (rt (D b n) - n * (b - 2)) / 2
def B (b n : Int) : Int := A b n + b * n
theorem A_lt {b x z : Int} (hb : 1 ≤ b) (hx : 0 ≤ x) (hz : 0 ≤ z) : A b z < z + x ↔ 0 < G b x z := by
  have h0 := D_nn b z
  have hbz : 0 ≤ b * z := Int.mul_nonneg (by omega) hz
  have h1 := rt_lt h0 (t := b * z + 2 * x) (by omega)
  have e1 : z * (b - 2) = b * z - 2 * z := by grind
  have e2 : (b * z + 2 * x) * (b * z + 2 * x) - D b z = 4 * G b x z := by unfold D G; grind
  unfold A
  rw [e1]
  omega
theorem A_ge {b z : Int} (hb : 1 ≤ b) (hz : 0 ≤ z) : z ≤ A b z := by
  have h := A_lt (x := 0) hb (Int.le_refl 0) hz
  have e : G b 0 z = - (z * z) := by unfold G; grind
  have := Int.mul_nonneg hz hz
  omega
theorem A_zero {b : Int} : A b 0 = 0 := by
  have e : D b 0 = 0 := by unfold D; grind
  have r : rt 0 = 0 := rt_uniq (Int.le_refl 0) (by decide) (by decide)
  unfold A
  rw [e, r]
  simp
/-- 1/2 (2 - b + sqrt ..) is less than 2 -/
theorem A_le {b z : Int} (hb : 1 ≤ b) (hz : 0 ≤ z) : A b z ≤ 2 * z := by
  have h := A_lt (x := z + 1) hb (by omega) hz
  have e : G b (z + 1) z = 2 * z + 1 + b * (z * (z + 1)) := by unfold G; grind
  have := Int.mul_nonneg (show 0 ≤ b by omega) (Int.mul_nonneg hz (show 0 ≤ z + 1 by omega))
  omega
theorem A_step {b n : Int} (hb : 1 ≤ b) (hn : 0 ≤ n) : A b n < A b (n + 1) := by
  have g := A_ge hb hn
  obtain ⟨x, hx⟩ : ∃ x, x = A b n - n := ⟨_, rfl⟩
  have hx0 : 0 ≤ x := by omega
  have h1 := A_lt (x := x) hb hx0 hn
  have h2 := A_lt (x := x) hb hx0 (show 0 ≤ n + 1 by omega)
  have k : G b x n ≤ 0 := by omega
  have key : b * x ≤ 2 * n := by
    by_cases c : b * x ≤ 2 * n
    · exact c
    · exfalso
      unfold G at k
      have c1 : 0 ≤ n * (b * x - 2 * n) := Int.mul_nonneg hn (by omega)
      have c2 : 0 ≤ n * n := Int.mul_nonneg hn hn
      have c3 : 0 ≤ x * x := Int.mul_nonneg hx0 hx0
      have c6 : n * (b * x - 2 * n) = b * x * n - 2 * (n * n) := by grind
      have c4 : x * x = 0 := by omega
      have c5 : x = 0 := by
        rcases Int.mul_eq_zero.mp c4 with h | h <;> exact h
      rw [c5] at c
      omega
  have e : G b x (n + 1) = G b x n + (b * x - 2 * n - 1) := by unfold G; grind
  have : ¬ A b (n + 1) < n + 1 + x := by omega
  omega
theorem A_mono {b n m : Int} (hb : 1 ≤ b) (hn : 0 ≤ n) (h : n < m) : A b n < A b m := by
  have key : ∀ k : Nat, A b n < A b (n + 1 + k) := by
    intro k
    induction k with
    | zero => simpa using A_step hb hn
    | succ k ih =>
      have := A_step hb (show 0 ≤ n + 1 + (k : Int) by omega)
      have e : n + 1 + ((k + 1 : Nat) : Int) = n + 1 + (k : Int) + 1 := by omega
      rw [e]
      omega
  have := key (m - n - 1).toNat
  rwa [show n + 1 + (((m - n - 1).toNat : Nat) : Int) = m by omega] at this
theorem A_le_mono {b n m : Int} (hb : 1 ≤ b) (hn : 0 ≤ n) (h : n ≤ m) : A b n ≤ A b m := by
  rcases Int.lt_or_eq_of_le h with c | c
  · exact Int.le_of_lt (A_mono hb hn c)
  · rw [c]; exact Int.le_refl _
theorem A_lt_iff {b n m : Int} (hb : 1 ≤ b) (hn : 0 ≤ n) (hm : 0 ≤ m) : A b n < A b m ↔ n < m := by
  constructor
  · intro h
    by_cases c : n < m
    · exact c
    · have := A_le_mono hb hm (show m ≤ n by omega)
      omega
  · exact A_mono hb hn
theorem A_inj {b n m : Int} (hb : 1 ≤ b) (hn : 0 ≤ n) (hm : 0 ≤ m) (h : A b n = A b m) : n = m := by
  have h1 := A_lt_iff hb hn hm
  have h2 := A_lt_iff hb hm hn
  omega
theorem mul_mono {b n m : Int} (hb : 1 ≤ b) (h : n < m) : b * n < b * m := Int.mul_lt_mul_of_pos_left h (by omega)
theorem B_mono {b n m : Int} (hb : 1 ≤ b) (hn : 0 ≤ n) (h : n < m) : B b n < B b m := by
  have := A_mono hb hn h
  have := mul_mono hb h
  unfold B
  omega
theorem B_inj {b n m : Int} (hb : 1 ≤ b) (hn : 0 ≤ n) (hm : 0 ≤ m) (h : B b n = B b m) : n = m := by
  rcases Int.lt_trichotomy n m with c | c | c
  · have := B_mono hb hn c; omega
  · exact c
  · have := B_mono hb hm c; omega
theorem B_gt {b n : Int} (hb : 1 ≤ b) (hn : 1 ≤ n) : A b n < B b n := by
  have := Int.mul_pos (show 0 < b by omega) (show 0 < n by omega)
  unfold B
  omega
theorem A_pos {b n : Int} (hb : 1 ≤ b) (hn : 1 ≤ n) : 1 ≤ A b n := by
  have := A_ge hb (show 0 ≤ n by omega)
  omega
/-- y is at most the other number of pair m just if .. -/
theorem dual {b m y : Int} (hb : 1 ≤ b) (hm : 1 ≤ m) (hy : m ≤ y) : y ≤ B b m ↔ A b (y - m) < y := by
  obtain ⟨z, rfl⟩ : ∃ z, y = z + m := ⟨y - m, by omega⟩
  have hz : 0 ≤ z := by omega
  have h1 := A_lt (x := m) (z := z) hb (by omega) hz
  rw [show z + m - m = z by omega]
  have hne := G_ne (z := z) hb hm hz
  have hbm : 0 ≤ b * m := Int.mul_nonneg (by omega) (by omega)
  unfold B
  by_cases c : b * m ≤ z
  · have h2 := A_lt (x := z - b * m) (z := m) hb (by omega) (by omega)
    have e : G b (z - b * m) m = - G b m z := by unfold G; grind
    omega
  · have g := A_ge hb (show 0 ≤ m by omega)
    have p : 0 < G b m z := by
      have e : G b m z = m * m + z * (b * m - z) := by unfold G; grind
      have a1 : 0 < m * m := Int.mul_pos (by omega) (by omega)
      have a2 : 0 ≤ z * (b * m - z) := Int.mul_nonneg hz (by omega)
      omega
    omega
/-! how many lesser numbers stand below e -/
def cnt (b e : Int) : Int := (rt (D b e) + e * (b - 2)) / (2 * b)
theorem rt_ge {b e : Int} (hb : 1 ≤ b) (he : 0 ≤ e) : b * e ≤ rt (D b e) := by
  have hbe : 0 ≤ b * e := Int.mul_nonneg (by omega) he
  rw [le_rt (D_nn b e) hbe]
  have e1 : D b e = (b * e) * (b * e) + 4 * (e * e) := by unfold D; grind
  have := Int.mul_nonneg he he
  omega
theorem cnt_nn {b e : Int} (hb : 1 ≤ b) (he : 0 ≤ e) : 0 ≤ cnt b e := by
  have h := rt_ge hb he
  have h2 : e * (b - 2) = b * e - 2 * e := by grind
  have h3 : e ≤ b * e := by
    have := Int.mul_le_mul_of_nonneg_right hb he
    omega
  unfold cnt
  refine Int.ediv_nonneg ?_ (by omega)
  omega
theorem cnt_spec {b e : Int} (hb : 1 ≤ b) (he : 1 ≤ e) : A b (cnt b e) < e ∧ e ≤ A b (cnt b e + 1) := by
  have hm := cnt_nn hb (show 0 ≤ e by omega)
  have d1 : 2 * b * cnt b e ≤ rt (D b e) + e * (b - 2) := Int.mul_ediv_self_le (by omega)
  have d2 : rt (D b e) + e * (b - 2) < 2 * b * cnt b e + 2 * b := Int.lt_mul_ediv_self_add (by omega)
  generalize cnt b e = m at *
  have hD := D_nn b e
  have hbe : e ≤ b * e := by
    have := Int.mul_le_mul_of_nonneg_right hb (show 0 ≤ e by omega)
    omega
  have hee : 0 < e * e := Int.mul_pos (by omega) (by omega)
  -- m below e
  have hme : m < e ∧ 0 < G b (e - m) m := by
    by_cases c : 0 ≤ 2 * b * m - e * (b - 2)
    · have k := (le_rt hD c).mp (by omega)
      have e1 : (2 * b * m - e * (b - 2)) * (2 * b * m - e * (b - 2)) - D b e = - (4 * (b * G b (e - m) m)) := by unfold D G; grind
      have p : 0 ≤ b * G b (e - m) m := by omega
      have q : 0 ≤ G b (e - m) m := by
        by_cases c2 : 0 ≤ G b (e - m) m
        · exact c2
        · have := Int.mul_pos (show 0 < b by omega) (show 0 < - G b (e - m) m by omega)
          rw [Int.mul_neg] at this
          omega
      have l : m < e := by
        by_cases c3 : m < e
        · exact c3
        · exfalso
          have e2 : G b (e - m) m = (e - m) * (e - m) + b * (e - m) * m - m * m := rfl
          have e3 : (e - m) * (e - m) - m * m = - (e * (2 * m - e)) := by grind
          have e4 : 0 < e * (2 * m - e) := Int.mul_pos (by omega) (by omega)
          have e5 : 0 ≤ b * (m - e) * m := Int.mul_nonneg (Int.mul_nonneg (by omega) (by omega)) hm
          have e6 : b * (e - m) * m = - (b * (m - e) * m) := by grind
          omega
      refine ⟨l, ?_⟩
      have := G_ne (x := e - m) (z := m) hb (by omega) hm
      omega
    · have l : m < e := by
        by_cases c3 : m < e
        · exact c3
        · exfalso
          have : 0 ≤ b * (m - e) := Int.mul_nonneg (by omega) (by omega)
          have e6 : 2 * b * m - e * (b - 2) = 2 * (b * (m - e)) + b * e + 2 * e := by grind
          omega
      refine ⟨l, ?_⟩
      have e2 : G b (e - m) m = e * e + m * (e * (b - 2) - 2 * b * m) + b * (m * m) := by unfold G; grind
      have a1 : 0 ≤ m * (e * (b - 2) - 2 * b * m) := Int.mul_nonneg hm (by omega)
      have a2 : 0 ≤ b * (m * m) := Int.mul_nonneg (by omega) (Int.mul_nonneg hm hm)
      omega
  obtain ⟨hl, hG⟩ := hme
  constructor
  · have := (A_lt (x := e - m) (z := m) hb (by omega) hm).mpr hG
    omega
  · -- not below
    have w0 : 0 ≤ 2 * b * (m + 1) - e * (b - 2) ∧ D b e < (2 * b * (m + 1) - e * (b - 2)) * (2 * b * (m + 1) - e * (b - 2)) := by
      have e1 : 2 * b * (m + 1) = 2 * b * m + 2 * b := by grind
      have r0 := rt_nn (D b e)
      have c : 0 ≤ 2 * b * (m + 1) - e * (b - 2) := by omega
      exact ⟨c, (rt_lt hD c).mp (by omega)⟩
    obtain ⟨c, k⟩ := w0
    have e1 : (2 * b * (m + 1) - e * (b - 2)) * (2 * b * (m + 1) - e * (b - 2)) - D b e = - (4 * (b * G b (e - (m + 1)) (m + 1))) := by unfold D G; grind
    have p : b * G b (e - (m + 1)) (m + 1) < 0 := by omega
    have q : G b (e - (m + 1)) (m + 1) < 0 := by
      by_cases c2 : 0 ≤ G b (e - (m + 1)) (m + 1)
      · have := Int.mul_nonneg (show 0 ≤ b by omega) c2
        omega
      · omega
    have := (A_lt (x := e - (m + 1)) (z := m + 1) hb (by omega) (by omega))
    omega
/-! in which pair a number is -/
def pw (b k : Int) : Int := if A b (cnt b (k + 1)) = k then cnt b (k + 1) else k - cnt b (k + 1)
theorem pw_spec {b k : Int} (hb : 1 ≤ b) (hk : 1 ≤ k) : 1 ≤ pw b k ∧ pw b k ≤ k ∧ (A b (pw b k) = k ∨ B b (pw b k) = k) := by
  have hm := cnt_nn hb (show 0 ≤ k + 1 by omega)
  obtain ⟨h1, h2⟩ := cnt_spec hb (show 1 ≤ k + 1 by omega)
  have g := A_ge hb hm
  unfold pw
  generalize cnt b (k + 1) = m at *
  split
  · rename_i c
    refine ⟨?_, by omega, Or.inl c⟩
    by_cases z : m = 0
    · rw [z, A_zero] at c
      omega
    · omega
  · rename_i c
    refine ⟨by omega, by omega, Or.inr ?_⟩
    have n1 : 1 ≤ k - m := by omega
    have d1 := dual (m := k - m) (y := k) hb n1 (by omega)
    have d2 := dual (m := k - m) (y := k + 1) hb n1 (by omega)
    rw [show k - (k - m) = m by omega] at d1
    rw [show k + 1 - (k - m) = m + 1 by omega] at d2
    omega
theorem A_ne_B {b n m : Int} (hb : 1 ≤ b) (hn : 1 ≤ n) (hm : 1 ≤ m) : A b n ≠ B b m := by
  intro h
  have gm := A_ge hb (show 0 ≤ m by omega)
  have gB := B_gt hb hm
  have d1 := (dual (m := m) (y := B b m) hb hm (by omega)).mp (Int.le_refl _)
  have d2 := dual (m := m) (y := B b m + 1) hb hm (by omega)
  have k1 : A b (B b m - m) < A b n := by omega
  have k2 : A b n < A b (B b m + 1 - m) := by omega
  have l1 := (A_lt_iff hb (by omega) (by omega)).mp k1
  have l2 := (A_lt_iff hb (by omega) (by omega)).mp k2
  omega
theorem pw_A {b n : Int} (hb : 1 ≤ b) (hn : 1 ≤ n) : pw b (A b n) = n := by
  obtain ⟨h1, h2, h3⟩ := pw_spec hb (A_pos hb hn)
  rcases h3 with h | h
  · exact A_inj hb (by omega) (by omega) h
  · exact absurd h.symm (A_ne_B hb hn h1)
theorem pw_B {b n : Int} (hb : 1 ≤ b) (hn : 1 ≤ n) : pw b (B b n) = n := by
  have p : 1 ≤ B b n := by
    have := B_gt hb hn
    have := A_pos hb hn
    omega
  obtain ⟨h1, h2, h3⟩ := pw_spec hb p
  rcases h3 with h | h
  · exact absurd h (A_ne_B hb h1 hn)
  · exact B_inj hb (by omega) (by omega) h
/-! the root from above, each time halfway -/
theorem newton_ge {N x r : Int} (h : r * r ≤ N) (hx : 1 ≤ x) : r ≤ (x + N / x) / 2 := by
  have h1 : (2 * r - x) * x ≤ N := by
    have e : (2 * r - x) * x = r * r - (r - x) * (r - x) := by grind
    have s : 0 ≤ (r - x) * (r - x) := by
      by_cases c : 0 ≤ r - x
      · exact Int.mul_nonneg c c
      · have := Int.mul_nonneg (show 0 ≤ -(r - x) by omega) (show 0 ≤ -(r - x) by omega)
        rwa [Int.neg_mul_neg] at this
    omega
  have h2 : 2 * r - x ≤ N / x := (Int.le_ediv_iff_mul_le (by omega)).mpr h1
  omega
theorem newton_lt {N x : Int} (h : N < x * x) (hx : 1 ≤ x) (h0 : 0 ≤ N) : 0 ≤ (x + N / x) / 2 ∧ (x + N / x) / 2 < x := by
  have h1 : N / x < x := Int.ediv_lt_of_lt_mul (by omega) h
  have h2 : 0 ≤ N / x := Int.ediv_nonneg h0 (by omega)
  omega
theorem rt_le {N : Int} (h : 0 ≤ N) : rt N ≤ N := by
  obtain ⟨h1, h2⟩ := rt_spec h
  have hn := rt_nn N
  by_cases c : rt N = 0
  · omega
  · have := Int.mul_le_mul_of_nonneg_right (show 1 ≤ rt N by omega) hn
    omega
theorem rt_eq {N x : Int} (h : 0 ≤ N) (hx : rt N ≤ x) (hs : x * x ≤ N) : x = rt N := by
  have hn := rt_nn N
  have := (le_rt h (show 0 ≤ x by omega)).mpr hs
  omega
theorem law_least (b n : Int) : (n * (2 - b) + rt (D b n)) / 2 = A b n := by
  have e : n * (2 - b) = - (n * (b - 2)) := by grind
  unfold A
  rw [e]
  congr 1
  omega
/-- what is in no pair ahead of n, and not above its lesser number, is that number -/
theorem first_free {b n k : Int} (hb : 1 ≤ b) (hn : 1 ≤ n) (hk : 1 ≤ k) (hle : k ≤ A b n) (h : ∀ m, 1 ≤ m → m < n → k ≠ A b m ∧ k ≠ B b m) : k = A b n := by
  obtain ⟨h1, h2, h3⟩ := pw_spec hb hk
  generalize pw b k = m at *
  have hm : n ≤ m := by
    by_cases c : m < n
    · have := h m h1 c
      omega
    · omega
  have g := A_le_mono hb (show 0 ≤ n by omega) hm
  have g2 := B_gt hb h1
  omega
/-- a number that is in a pair ahead is not the lesser number of this one -/
theorem ahead_ne {b n k m : Int} (hb : 1 ≤ b) (h1 : 1 ≤ m) (h2 : m < n) (h : k = A b m ∨ k = B b m) : k ≠ A b n := by
  rcases h with h | h
  · have := A_mono hb (show 0 ≤ m by omega) h2
    omega
  · intro e
    exact A_ne_B hb (show 1 ≤ n by omega) h1 (e.symm.trans h)
theorem B_le {b n : Int} (hb : 1 ≤ b) (hn : 0 ≤ n) : B b n ≤ (b + 2) * n := by
  have := A_le hb hn
  have e : (b + 2) * n = b * n + 2 * n := by grind
  unfold B
  omega
theorem B_ge {b n : Int} (hb : 1 ≤ b) (hn : 0 ≤ n) : 0 ≤ B b n := by
  have := A_ge hb hn
  have := Int.mul_nonneg (show 0 ≤ b by omega) hn
  unfold B
  omega
theorem A_one {b : Int} (hb : 1 ≤ b) : A b 1 = 1 := by
  have g := A_ge hb (show (0 : Int) ≤ 1 by decide)
  have h := A_lt (b := b) (x := 1) (z := 1) hb (by decide) (by decide)
  have e : G b 1 1 = b := by unfold G; grind
  omega
end Th
/-! rules of one's own over the layer -/
namespace TH
open PySem PySem.Spec PyProof.Rows L2
/-- small: within n bits -/
def Sm (n : Nat) (i : Int) : Prop := i.natAbs < 2 ^ n
theorem sm_mono {a b : Nat} {i : Int} (h : Sm a i) (hb : a ≤ b) : Sm b i := Nat.lt_of_lt_of_le h (Nat.pow_le_pow_right (by decide) hb)
theorem sm_mul {a b : Nat} {i j : Int} (h : Sm a i) (h' : Sm b j) : Sm (a + b) (i * j) := wide_lt h h'
theorem sm_add {a : Nat} {i j : Int} (h : Sm a i) (h' : Sm a j) : Sm (a + 1) (i + j) := by
  unfold Sm at *
  rw [Nat.pow_succ]
  omega
theorem sm_sub {a : Nat} {i j : Int} (h : Sm a i) (h' : Sm a j) : Sm (a + 1) (i - j) := by
  unfold Sm at *
  rw [Nat.pow_succ]
  omega
theorem sm_neg {a : Nat} {i : Int} (h : Sm a i) : Sm a (-i) := by
  unfold Sm at *
  omega
theorem sm_le {a : Nat} {i j : Int} (h : Sm a j) (h0 : 0 ≤ i) (h1 : i ≤ j) : Sm a i := by
  unfold Sm at *
  omega
theorem sm_abs {a : Nat} {i j : Int} (h : Sm a j) (h1 : i.natAbs ≤ j.natAbs) : Sm a i := by
  unfold Sm at *
  omega
theorem sm_lit {a : Nat} {i : Int} (h : i.natAbs < 2 ^ a) : Sm a i := h
theorem mulx {a b : Nat} {i j : Int} (h : Sm a i) (h' : Sm b j) (hab : a + b ≤ 134217728 := by decide) : CMulX i j := mulx_ok h h' hab
theorem divw {b : Nat} {i j : Int} (hj : 0 < j) (h : Sm b j) (h0 : 0 < b := by decide) (h9 : b ≤ 9000 := by decide) : CDivW i j := wide_div hj h h0 h9
theorem ifT {c : Bool} {A B : Prop} (hc : c = true) (h : A) : if c = true then A else B := by
  rw [if_pos hc]
  exact h
theorem ifF {c : Bool} {A B : Prop} (hc : c = false) (h : B) : if c = true then A else B := by
  rw [hc, if_neg Bool.false_ne_true]
  exact h
theorem if2 {c : Bool} {A B : Prop} (h1 : c = true → A) (h2 : c = false → B) : if c = true then A else B := by
  cases c with
  | true => exact ifT rfl (h1 rfl)
  | false => exact ifF rfl (h2 rfl)
theorem nd {p : Prop} [Decidable p] (h : p) : (!decide p) = false := by simp [h]
theorem nd1 {p : Prop} [Decidable p] (h : ¬ p) : (!decide p) = true := by simp [h]
theorem bt {Q : VK} {c : Bool} {H : Hp} (h : c = true) (q : Q (.bl true) H) : Q (.bl c) H := by rw [h]; exact q
theorem bf {Q : VK} {c : Bool} {H : Hp} (h : c = false) (q : Q (.bl false) H) : Q (.bl c) H := by rw [h]; exact q
theorem bq {Q : VK} {c d : Bool} {H : Hp} (h : c = d) (q : Q (.bl d) H) : Q (.bl c) H := by rw [h]; exact q
/-! isqrt -/
theorem isqrt_rt {N : Int} (h : 0 ≤ N) : ((Float64.isqrt N.toNat : Nat) : Int) = Th.rt N := by
  obtain ⟨h1, h2⟩ := Float64.isqrt_spec N.toNat
  have e : ((N.toNat : Nat) : Int) = N := Int.toNat_of_nonneg h
  have h1' := Int.ofNat_le.mpr h1
  have h2' := Int.ofNat_lt.mpr h2
  rw [e] at h1' h2'
  push_cast at h1' h2'
  exact (Th.rt_uniq (Int.natCast_nonneg _) h1' h2').symm
def rIsqrt : List V → Hp → VK → Prop := fun vs H Q => ∃ n : Int, vs = [.int n] ∧ 0 ≤ n ∧ Sm 13000 n ∧ Q (.int (Th.rt n)) H
theorem cr_isqrt {X : Cx} : CallR X (.builtin "math.isqrt") rIsqrt := by
  intro pins s σ H vs us Q I r h
  obtain ⟨n, rfl, h0, hs, q⟩ := h
  cases r with
  | cons ra rr =>
    cases rr
    obtain ⟨t, rfl⟩ := ra
    have hl : n.toNat.log2 < 13000 := by
      have e : n.toNat = n.natAbs := by omega
      rw [e]
      exact PySem.Flt.log2_lt_of (by decide) hs
    rw [← isqrt_rt h0] at q
    exact call_function_meets PySem.W.MGF.kind_isqrt PySem.W.MGF.plain_isqrt PySem.W.MGF.entry_isqrt (PySem.W.MGF.args_isqrt _) (PySem.W.mg_run_isqrt n t (by omega) (by omega) (by omega)).meets ⟨.int _, H, I.tok _, ⟨_, rfl⟩, q⟩
/-! min, max of a tuple of two ints -/
def rMinT : List V → Hp → VK → Prop := fun vs H Q => ∃ (a : Addr) (i j : Int), vs = [.ref a] ∧ H a = some (.tup [.int i, .int j]) ∧ Q (.int (min i j)) H
def rMaxT : List V → Hp → VK → Prop := fun vs H Q => ∃ (a : Addr) (i j : Int), vs = [.ref a] ∧ H a = some (.tup [.int i, .int j]) ∧ Q (.int (max i j)) H
theorem two_alike (i j : Int) : PySem.W.AlikeAll [.int i, .int j] := by
  refine ⟨fun x hx y hy => ?_, fun x hx => ?_⟩
  · rcases List.mem_cons.mp hx with rfl | hx
    · rcases List.mem_cons.mp hy with rfl | hy
      · rfl
      · rw [List.mem_singleton.mp hy]; rfl
    · rw [List.mem_singleton.mp hx]
      rcases List.mem_cons.mp hy with rfl | hy
      · rfl
      · rw [List.mem_singleton.mp hy]; rfl
  · rcases List.mem_cons.mp hx with rfl | hx
    · exact fun z => nomatch z
    · rw [List.mem_singleton.mp hx]; exact fun z => nomatch z
theorem cr_minT {X : Cx} (hc : X.calm = true) (hu : X.A.units + 64 < cLine) : CallR X (.builtin "min") rMinT := by
  intro pins s σ H vs us Q I r h
  obtain ⟨a, i, j, rfl, ha, q⟩ := h
  obtain ⟨its, rv, ht, _⟩ := I.tuple (SqT.of (K := X.K) ha)
  rw [Vals.ref1 r]
  cases rv with
  | cons r1 rr =>
    cases rr with
    | cons r2 rr =>
      cases rr
      obtain ⟨t1, rfl⟩ := r1
      obtain ⟨t2, rfl⟩ := r2
      refine PySem.W.min_tuple_data (x := .int i) (xs := [.int j]) (as := []) (I.ok.hd hc) ht (.cons (.int i t1) (.cons (.int j t2) .nil)) (two_alike i j) ?_ fun k v h' tk bs hv hr hk => ?_
      · have : PyData.depthAll [PyData.int i, PyData.int j] ≤ 1 := by
          simp [PyData.depthAll, PyData.depth]
        omega
      · rw [show [PyData.int j] = [j].map PyData.int from rfl, PySem.W.minD_ints] at hr
        cases hr
        exact ⟨.int _, H, I.kept hk, ⟨_, rfl⟩, q⟩
theorem cr_maxT {X : Cx} (hc : X.calm = true) (hu : X.A.units + 64 < cLine) : CallR X (.builtin "max") rMaxT := by
  intro pins s σ H vs us Q I r h
  obtain ⟨a, i, j, rfl, ha, q⟩ := h
  obtain ⟨its, rv, ht, _⟩ := I.tuple (SqT.of (K := X.K) ha)
  rw [Vals.ref1 r]
  cases rv with
  | cons r1 rr =>
    cases rr with
    | cons r2 rr =>
      cases rr
      obtain ⟨t1, rfl⟩ := r1
      obtain ⟨t2, rfl⟩ := r2
      refine PySem.W.max_tuple_data (x := .int i) (xs := [.int j]) (as := []) (I.ok.hd hc) ht (.cons (.int i t1) (.cons (.int j t2) .nil)) (two_alike i j) ?_ fun k v h' tk bs hv hr hk => ?_
      · have : PyData.depthAll [PyData.int i, PyData.int j] ≤ 1 := by
          simp [PyData.depthAll, PyData.depth]
        omega
      · rw [show [PyData.int j] = [j].map PyData.int from rfl, PySem.W.maxD_ints] at hr
        cases hr
        exact ⟨.int _, H, I.kept hk, ⟨_, rfl⟩, q⟩
/-! == of two pairs of ints -/
def rEqP : R2 := fun x y H Q => ∃ (a b : Addr) (i j k l : Int), x = .ref a ∧ y = .ref b ∧ H a = some (.tup [.int i, .int j]) ∧ H b = some (.tup [.int k, .int l]) ∧ Q (.bl (decide (i = k ∧ j = l))) H
def rNeP : R2 := fun x y H Q => ∃ (a b : Addr) (i j k l : Int), x = .ref a ∧ y = .ref b ∧ H a = some (.tup [.int i, .int j]) ∧ H b = some (.tup [.int k, .int l]) ∧ Q (.bl (!decide (i = k ∧ j = l))) H
theorem pair_eqv (i j k l : Int) : PyData.eqv (.tuple [.int i, .int j]) (.tuple [.int k, .int l]) = decide (i = k ∧ j = l) := by
  simp [PyData.eqv, PyData.eqvAll]
  rfl
theorem pair_dp {K : PySem.W.Frag} {H : Hp} {a : Addr} {i j : Int} (h : H a = some (.tup [.int i, .int j])) : Dp K H (.ref a) (.tuple [.int i, .int j]) := .tup (SqT.of h) (.cons (.int i) (.cons (.int j) .nil))
theorem pair_sh (i j : Int) : SeqAt.shaped (.tuple [.int i, .int j]) = true := by
  unfold SeqAt.shaped
  simp [PyData.canLay0, PyData.canLayAll0, PyData.depth, PyData.depthAll]
theorem op_eqP {X : Cx} (hu : X.A.units + 64 < cLine) : OpR X (compareOp .Eq) rEqP := by
  intro pins s σ H x y v u Q I rx ry h
  obtain ⟨a, b, i, j, k, l, rfl, rfl, ha, hb, q⟩ := h
  exact op_eqD hu pins s σ H _ _ v u Q I rx ry ⟨_, _, pair_dp ha, pair_dp hb, pair_sh i j, pair_sh k l, by rw [pair_eqv]; exact q⟩
theorem op_neP {X : Cx} (hu : X.A.units + 64 < cLine) : OpR X (compareOp .NotEq) rNeP := by
  intro pins s σ H x y v u Q I rx ry h
  obtain ⟨a, b, i, j, k, l, rfl, rfl, ha, hb, q⟩ := h
  exact op_neD hu pins s σ H _ _ v u Q I rx ry ⟨_, _, pair_dp ha, pair_dp hb, pair_sh i j, pair_sh k l, by rw [pair_eqv]; exact q⟩
/-! a place of a pair -/
theorem at0 {i j : V} : atI [i, j] 0 = some i := rfl
theorem at1 {i j : V} : atI [i, j] 1 = some j := rfl
/-! isinstance by a built-in class -/
def rIsB : List V → Hp → VK → Prop := fun vs H Q => ∃ (x : V) (S T : String) (b : Bool), vs = [x, .ty T] ∧
  ((∃ i, x = .int i) ∧ S = "int" ∨ (∃ c, x = .bl c) ∧ S = "bool" ∨ (∃ p xs, x = .ref p ∧ H p = some (.tup xs)) ∧ S = "tuple") ∧ kitB S T = some b ∧ Q (.bl b) H
theorem cr_isB {X : Cx} : CallR X (.builtin "isinstance") rIsB := by
  intro pins s σ H vs us Q I r h
  obtain ⟨x, S, T, b, rfl, hx, hk, q⟩ := h
  refine call_isi pins s σ H _ us Q I r ⟨x, .ty T, .type S, .type T, b, rfl, .ty T, ?_, kit_ty hk, q⟩
  rcases hx with ⟨⟨i, rfl⟩, rfl⟩ | ⟨⟨c, rfl⟩, rfl⟩ | ⟨⟨p, xs, rfl, hp⟩, rfl⟩
  · exact .base (.int i)
  · exact .base (.bl c)
  · exact .base (.tup hp)
theorem kb_ii : kitB "int" "int" = some true := by decide +kernel
theorem kb_ib : kitB "int" "bool" = some false := by decide +kernel
theorem kb_bb : kitB "bool" "bool" = some true := by decide +kernel
theorem kb_tt : kitB "tuple" "tuple" = some true := by decide +kernel
/-! places, cells -/
theorem at_in {xs : List V} {i : Int} (h0 : 0 ≤ i) (h : i < xs.length) : ∃ v, atI xs i = some v ∧ v ∈ xs := by
  obtain ⟨j, rfl⟩ : ∃ j : Nat, i = j := ⟨i.toNat, by omega⟩
  have hj : j < xs.length := by omega
  exact ⟨xs[j], atI_nat (List.getElem?_eq_getElem hj), List.getElem_mem hj⟩
theorem at_cell {ns : List Int} {k : Int} (h0 : 0 ≤ k) (h : k < (ns.map V.int).length) : atI (ns.map V.int) k = some (.int (ns.getD k.toNat 0)) := by
  obtain ⟨j, rfl⟩ : ∃ j : Nat, k = j := ⟨k.toNat, by omega⟩
  rw [List.length_map] at h
  exact atI_cell (by omega)
theorem cell_out {ns : List Int} {k : Int} (h : ¬ k < (ns.map V.int).length) : ns.getD k.toNat 0 = 0 := by
  rw [List.length_map] at h
  rw [List.getD_eq_getElem?_getD, List.getElem?_eq_none (by omega)]
  rfl
def CellsSm (ns : List Int) : Prop := ∀ z ∈ ns, Sm 1048577 z
theorem sm_cell {ns : List Int} (h : CellsSm ns) (k : Nat) : Sm 1048577 (ns.getD k 0) := by
  rw [List.getD_eq_getElem?_getD]
  cases e : ns[k]? with
  | none => exact sm_mono (sm_lit (a := 1) (by decide)) (by decide)
  | some z => exact h z (List.mem_of_getElem? e)
theorem sm_bits {z : Int} (h : Builtin.Int.intBits z ≤ 1048576) : Sm 1048577 z := by
  have h1 : z.natAbs < 2 ^ (z.natAbs.log2 + 1) := Nat.lt_log2_self
  have h2 : z.natAbs.log2 ≤ 1048576 := by
    unfold Builtin.Int.intBits at h
    split at h
    · rename_i c
      have e : z = 0 := by simpa using c
      rw [e]
      decide
    · omega
  exact Nat.lt_of_lt_of_le h1 (Nat.pow_le_pow_right (by decide) (by omega))
theorem p18 : (10 : Int) ^ (18 : Int).toNat = 1000000000000000000 := by decide
theorem p40 : (10 : Int) ^ (40 : Int).toNat = 10000000000000000000000000000000000000000 := by decide
abbrev M18 : Int := 1000000000000000000
abbrev M40 : Int := 10000000000000000000000000000000000000000
theorem sm_m40 {z : Int} (h0 : 0 ≤ z) (h1 : z ≤ M40) : Sm 134 z := by
  unfold Sm M40 at *
  omega
theorem pow_ok {j : Int} (h0 : 0 ≤ j) (h : j ≤ 1000) : CPow 10 j := ⟨h0, by omega, by decide⟩
theorem in_two {k i j : Int} : inV (.int k) [.int i, .int j] = decide (k = i ∨ k = j) := by
  have e : inV (.int k) [.int i, .int j] = ((i == k) || ((j == k) || false)) := rfl
  rw [e]
  by_cases c1 : i = k
  · subst c1; simp
  · by_cases c2 : j = k
    · subst c2; simp
    · have h1 : ¬ k = i := fun h => c1 h.symm
      have h2 : ¬ k = j := fun h => c2 h.symm
      simp [c1, c2, h1, h2]
open Evl in
theorem ex_new {H : Hp} {p : Addr} {o : HO} (h : H p = none) : Ex H (upd H p o) := Ex.new h
/-! the script's cut, the steps over it -/
theorem cut63 {ns : List Int} (h : ns.length ≤ 63) : cutV (ns.map V.int) none (some 63) = ns.map V.int := by
  unfold cutV
  rw [HT.sIx_none, List.drop_zero, show (some 63 : Option Int) = some ((63 : Nat) : Int) from rfl, HT.sIx_nat, Nat.sub_zero, List.take_of_length_le]
  rw [List.length_map]
  omega
def rgOk (l d : Nat) : Bool := Builtin.Range.small 0 (l : Int) (1 + (l : Int) / (d : Int)) && decide (0 ≤ Builtin.Range.rangeSize 0 (l : Int) (1 + (l : Int) / (d : Int))) && decide (Builtin.Range.rangeSize 0 (l : Int) (1 + (l : Int) / (d : Int)) ≤ 63)
theorem rg_all : ∀ l : Fin 64, rgOk l 5 = true ∧ rgOk l 6 = true ∧ rgOk l 8 = true := by decide +kernel
theorem rg_of {l d : Nat} (h : l ≤ 63) (hd : 5 ≤ d) (k : rgOk l d = true) : ∃ n : Nat, n ≤ 63 ∧ RgC 0 (l : Int) (1 + (l : Int) / (d : Int)) n := by
  unfold rgOk at k
  rw [Bool.and_eq_true, Bool.and_eq_true, decide_eq_true_eq, decide_eq_true_eq] at k
  obtain ⟨⟨h1, h2⟩, h3⟩ := k
  have hp : 0 ≤ (l : Int) / (d : Int) := Int.ediv_nonneg (by omega) (by omega)
  have hq : (l : Int) / (d : Int) ≤ l := Int.ediv_le_self _ (by omega)
  exact ⟨(Builtin.Range.rangeSize 0 (l : Int) (1 + (l : Int) / (d : Int))).toNat, by omega, by omega, by omega, h1, by omega⟩
theorem step_le {l d : Nat} (h : l ≤ 63) (hd : 5 ≤ d) : 1 ≤ 1 + (l : Int) / (d : Int) ∧ 1 + (l : Int) / (d : Int) ≤ 13 := by
  have hp : 0 ≤ (l : Int) / (d : Int) := Int.ediv_nonneg (by omega) (by omega)
  have : (l : Int) / (d : Int) ≤ 12 := by
    have h1 : (l : Int) / (d : Int) < 13 := Int.ediv_lt_of_lt_mul (by omega) (by omega)
    omega
  omega
theorem place_le {i n : Nat} {c : Int} (hi : i < n) (hn : n ≤ 63) (h1 : 1 ≤ c) (h2 : c ≤ 13) : 0 ≤ 0 + (i : Int) * c ∧ 0 + (i : Int) * c ≤ 819 := by
  have a := Int.mul_nonneg (show (0 : Int) ≤ i by omega) (show 0 ≤ c by omega)
  have b := Int.mul_le_mul (show (i : Int) ≤ 63 by omega) h2 (by omega) (by decide)
  omega
theorem sm_mod18 (c : Int) : Sm 100 (c % 10 ^ (18 : Int).toNat) := by
  have i1 := Int.emod_nonneg c (show M18 ≠ 0 by decide)
  have i2 := Int.emod_lt_of_pos c (show 0 < M18 by decide)
  rw [p18]
  unfold Sm
  omega
theorem p18_pos : (0 : Int) < 10 ^ (18 : Int).toNat := by rw [p18]; decide
end TH

namespace TH
open PySem PySem.Spec PyProof.Rows L2
section text
def top (i : Nat) : Stmt := PySem.Challenge.pw_twoheaps_k02_whole_pairs.main.body.getD i (.Pass ⟨0, 0, 0, 0⟩)
structure Cs where
  none : Unit
structure Txt (K : PySem.W.Frag) (mg : Str → Option Value) (cs : Cs) : Prop where
  n_bool : mg "bool" = none
  n_int : mg "int" = none
  n_isinstance : mg "isinstance" = none
  isqrt : mg "isqrt" = some (.builtin "math.isqrt")
  n_len : mg "len" = none
  n_max : mg "max" = none
  n_range : mg "range" = none
  n_tuple : mg "tuple" = none
end text
def cs0 : Cs := ⟨()⟩
section
variable {P : Program} {w : World} {K : PySem.W.Frag} {mg : Str → Option Value} {base : Heap} {cs : Cs}
-- is_whole: slots 0 value
abbrev s_is_whole : Stmt := top 6
theorem sc_is_whole : FnScope ["value"] ["value"] (defScope s_is_whole) := ⟨rfl, rfl, rfl, by decide +kernel, rfl, by decide +kernel, by decide +kernel⟩
def sp_is_whole (K : PySem.W.Frag) (cs : Cs) : Sp := fun vs H Q E => ∃ i : Int, vs = [.int i] ∧ Q (.bl true) H
theorem ok_is_whole {f : Addr} {fd : FuncData} (F : L2.Fun K "is_whole" "is_whole" s_is_whole f fd) (T : Txt K mg cs) : FnOk P w K mg base CX0 1 f fd ["value"] (sp_is_whole K cs) := by
  refine F.ok sc_is_whole (fun vs H Q E h => ?_) (fun cdv A outer s H vs Q E hr h => ?_)
  · obtain ⟨_, rfl, _⟩ := h
    rfl
  · obtain ⟨i, rfl, k⟩ := h
    refine ⟨_, (pss_one (ps_ret (pe_and (pe_callB cr_isB (by rfl) T.n_isinstance (by decide +kernel) (pa_cons (pv 0) (pa_cons (pe_bltn (v := .ty "int") (u := .type "int") (by rfl) T.n_int (by decide +kernel) rfl) pa_nil))) (pe_one (pe_not (pe_callB cr_isB (by rfl) T.n_isinstance (by decide +kernel) (pa_cons (pv 0) (pa_cons (pe_bltn (v := .ty "bool") (u := .type "bool") (by rfl) T.n_bool (by decide +kernel) rfl) pa_nil)))))))), ?_⟩
    exact ⟨_, rfl, _, "int", "int", true, rfl, .inl ⟨⟨_, rfl⟩, rfl⟩, kb_ii, true, rfl, iteT ⟨_, rfl, _, "int", "bool", false, rfl, .inl ⟨⟨_, rfl⟩, rfl⟩, kb_ib, false, rfl, k⟩⟩
-- _times_root: slots 0 bound, 1 number
abbrev s__times_root : Stmt := top 13
theorem sc__times_root : FnScope ["bound", "number"] ["bound", "number"] (defScope s__times_root) := ⟨rfl, rfl, rfl, by decide +kernel, rfl, by decide +kernel, by decide +kernel⟩
def sp__times_root (K : PySem.W.Frag) (cs : Cs) : Sp := fun vs H Q E => ∃ b n : Int, vs = [.int b, .int n] ∧ Sm 3000 b ∧ Sm 3000 n ∧ Q (.int (Th.rt (Th.D b n))) H
theorem ok__times_root {f : Addr} {fd : FuncData} (F : L2.Fun K "_times_root" "_times_root" s__times_root f fd) (T : Txt K mg cs) : FnOk P w K mg base CX0 1 f fd ["bound", "number"] (sp__times_root K cs) := by
  refine F.ok sc__times_root (fun vs H Q E h => ?_) (fun cdv A outer s H vs Q E hr h => ?_)
  · obtain ⟨_, _, rfl, _⟩ := h
    rfl
  · obtain ⟨b, n, rfl, sb, sn, k⟩ := h
    refine ⟨_, (pss_one (ps_ret (pe_callBfun cr_isqrt (by rfl) T.isqrt (pa_cons (pe_op op_mulX (pe_op op_mulX (pv 1) (pv 1)) (pe_op op_add (pe_op op_mulX (pv 0) (pv 0)) pe_int)) pa_nil)))), ?_⟩
    have s1 := sm_mul sn sn
    have s2 := sm_mul sb sb
    have s3 : Sm 6001 (b * b + 4) := sm_add s2 (sm_mono (sm_lit (a := 3) (by decide)) (by decide))
    have s4 := sm_mul s1 s3
    exact ⟨_, rfl, _, rfl, _, _, rfl, rfl, mulx sn sn, _, rfl, _, rfl, _, _, rfl, rfl, mulx sb sb, _, _, rfl, rfl, _, _, rfl, rfl, mulx s1 s3, _, rfl, Th.D_nn b n, sm_mono s4 (by decide), k⟩
-- _law_cell_at: slots 0 script, 1 k
abbrev s__law_cell_at : Stmt := top 16
theorem sc__law_cell_at : FnScope ["_law_script", "_law_k"] ["_law_script", "_law_k"] (defScope s__law_cell_at) := ⟨rfl, rfl, rfl, by decide +kernel, rfl, by decide +kernel, by decide +kernel⟩
def sp__law_cell_at (K : PySem.W.Frag) (cs : Cs) : Sp := fun vs H Q E => ∃ (a : Addr) (ns : List Int) (k : Int), vs = [.ref a, .int k] ∧ SqL K H a (ns.map V.int) ∧ 0 ≤ k ∧ Q (.int (ns.getD k.toNat 0)) H
theorem ok__law_cell_at {f : Addr} {fd : FuncData} (F : L2.Fun K "_law_cell_at" "_law_cell_at" s__law_cell_at f fd) (T : Txt K mg cs) : FnOk P w K mg base CX0 1 f fd ["_law_script", "_law_k"] (sp__law_cell_at K cs) := by
  refine F.ok sc__law_cell_at (fun vs H Q E h => ?_) (fun cdv A outer s H vs Q E hr h => ?_)
  · obtain ⟨_, _, _, rfl, _⟩ := h
    rfl
  · obtain ⟨a, ns, j, rfl, hs, h0, k⟩ := h
    refine ⟨_, (pss_cons (ps_if (pt_cmp (pc_lt (pv 1) (pe_callB call_len_seq (by rfl) T.n_len (by decide +kernel) (pa_cons (pv 0) pa_nil)))) (pss_one (ps_ret (pe_ix ix_list (pv 0) (pv 1) (fun _ _ => rfl)))) pss_nil) (pss_one (ps_ret pe_int))), ?_⟩
    refine ⟨_, rfl, _, rfl, a, _, rfl, .inl hs, _, _, rfl, rfl, _, rfl, ?_⟩
    by_cases c : j < (ns.map V.int).length
    · exact ifT (decide_eq_true c) ⟨_, rfl, _, rfl, a, _, _, _, rfl, rfl, hs, at_cell h0 c, k⟩
    · rw [cell_out c] at k
      exact ifF (decide_eq_false c) k
-- _law_draw: slots 0 cell, 1 k, 2 many, 3 primes
abbrev s__law_draw : Stmt := top 17
theorem sc__law_draw : FnScope ["_law_cell", "_law_k", "_law_many", "_law_primes"] ["_law_cell", "_law_k", "_law_many"] (defScope s__law_draw) := ⟨rfl, rfl, rfl, by decide +kernel, rfl, by decide +kernel, by decide +kernel⟩
def sp__law_draw (K : PySem.W.Frag) (cs : Cs) : Sp := fun vs H Q E => ∃ c k m : Int, vs = [.int c, .int k, .int m] ∧ Sm 3000000 c ∧ Sm 100 k ∧ 0 ≤ k ∧ 0 < m ∧ ∀ r H', Evl.Ex H H' → 0 ≤ r → r < m → Q (.int r) H'
theorem ok__law_draw {f : Addr} {fd : FuncData} (F : L2.Fun K "_law_draw" "_law_draw" s__law_draw f fd) (T : Txt K mg cs) : FnOk P w K mg base CX0 1 f fd ["_law_cell", "_law_k", "_law_many"] (sp__law_draw K cs) := by
  refine F.ok sc__law_draw (fun vs H Q E h => ?_) (fun cdv A outer s H vs Q E hr h => ?_)
  · obtain ⟨_, _, _, rfl, _⟩ := h
    rfl
  · obtain ⟨c, j, m, rfl, sc, sj, h0, hm, k⟩ := h
    refine ⟨_, (pss_cons (ps_set (i := 3) sc__law_draw.nd rfl (Or.inl rfl) (pe_tup (pa_cons pe_int (pa_cons pe_int (pa_cons pe_int (pa_cons pe_int (pa_cons pe_int (pa_cons pe_int (pa_cons pe_int (pa_cons pe_int (pa_cons pe_int (pa_cons pe_int (pa_cons pe_int (pa_cons pe_int (pa_cons pe_int (pa_cons pe_int (pa_cons pe_int (pa_cons pe_int pa_nil)))))))))))))))))) (pss_one (ps_ret (pe_op op_mod (pe_op op_mod (pe_op op_add (pe_op op_mulX (pv 0) pe_int) (pe_op op_mulX (pv 1) pe_int)) (pe_ix ix_tup (pv 3) (pe_op op_mod (pv 1) pe_int) (fun _ _ => rfl))) (pv 2))))), ?_⟩
    refine ⟨(by show 16 ≤ sizeLine; decide), fun p hp => ?_⟩
    have hb : 0 ≤ j % 16 ∧ j % 16 < 16 := by omega
    obtain ⟨v, hv, hmem⟩ := at_in (xs := [.int 1000003, .int 1000033, .int 1000037, .int 1000039, .int 1000081, .int 1000099, .int 1000117, .int 1000121, .int 1000133, .int 1000151, .int 1000159, .int 1000171, .int 1000183, .int 1000187, .int 1000193, .int 1000199]) hb.1 hb.2
    obtain ⟨z, rfl, hz⟩ : ∃ z : Int, v = .int z ∧ 0 < z := by
      simp only [List.mem_cons, List.not_mem_nil, or_false] at hmem
      rcases hmem with h | h | h | h | h | h | h | h | h | h | h | h | h | h | h | h <;> exact ⟨_, h, by decide⟩
    refine ⟨_, rfl, _, _, rfl, rfl, mulx sc (sm_lit (a := 17) (by decide)), _, rfl, _, _, rfl, rfl, mulx sj (sm_lit (a := 18) (by decide)), _, _, rfl, rfl, _, rfl, _, rfl, _, _, rfl, rfl, (by show (0 : Int) < 16; decide), p, _, _, _, rfl, rfl, SqT.of upd_same, hv, _, _, rfl, rfl, hz, _, rfl, _, _, rfl, rfl, hm, ?_⟩
    exact k _ _ (ex_new hp) (Int.emod_nonneg _ (by omega)) (Int.emod_lt_of_pos _ hm)
-- _law_root: slots 0 number_here, 1 now
abbrev s__law_root : Stmt := top 19
theorem sc__law_root : FnScope ["_law_number_here", "_law_now"] ["_law_number_here"] (defScope s__law_root) := ⟨rfl, rfl, rfl, by decide +kernel, rfl, by decide +kernel, by decide +kernel⟩
def sp__law_root (K : PySem.W.Frag) (cs : Cs) : Sp := fun vs H Q E => ∃ N : Int, vs = [.int N] ∧ 0 ≤ N ∧ Sm 8000 N ∧ Q (.int (Th.rt N)) H
theorem ok__law_root {f : Addr} {fd : FuncData} (F : L2.Fun K "_law_root" "_law_root" s__law_root f fd) (T : Txt K mg cs) : FnOk P w K mg base CX0 1 f fd ["_law_number_here"] (sp__law_root K cs) := by
  refine F.ok sc__law_root (fun vs H Q E h => ?_) (fun cdv A outer s H vs Q E hr h => ?_)
  · obtain ⟨_, rfl, _⟩ := h
    rfl
  · obtain ⟨N, rfl, hN, sN, k⟩ := h
    refine ⟨_, (pss_cons (ps_set (i := 1) sc__law_root.nd rfl (Or.inl rfl) pe_int) (pss_cons (ps_while PassesOwn.never (pt_cmp (pc_le (pe_op op_mulX (pv 1) (pv 1)) (pv 0))) (pss_one (ps_set (i := 1) sc__law_root.nd rfl (Or.inl rfl) (pe_op op_mulX pe_int (pv 1))))) (pss_cons (ps_while PassesOwn.never (pt_cmp (pc_gt (pe_op op_mulX (pv 1) (pv 1)) (pv 0))) (pss_one (ps_set (i := 1) sc__law_root.nd rfl (Or.inl rfl) (pe_op op_fdivW (pe_op op_add (pv 1) (pe_op op_fdivW (pv 0) (pv 1))) pe_int)))) (pss_one (ps_ret (pv 1)))))), ?_⟩
    have hr := Th.rt_nn N
    have hl := Th.rt_le hN
    have sr : ∀ x : Int, 0 ≤ x → x ≤ 1024 * Th.rt N + 1 → Sm 8012 x := fun x h0 h1 => by
      have s1 : Sm 8011 (1024 * N) := sm_mul (sm_lit (a := 11) (by decide)) sN
      have s2 : Sm 8012 (1024 * N + 1) := sm_add s1 (sm_mono (sm_lit (a := 1) (by decide)) (by decide))
      exact sm_le s2 h0 (by omega)
    -- upward
    refine ⟨fun m σ H' => ∃ x : Int, σ = [some (.int N), some (.int x)] ∧ H = H' ∧ 1 ≤ x ∧ x ≤ 1024 * Th.rt N + 1 ∧ m = (1024 * Th.rt N + 2 - x).toNat, ⟨_, 1, rfl, rfl, by omega, by omega, rfl⟩, ?_⟩
    rintro m σ H' ⟨x, rfl, rfl, h1, h2, rfl⟩
    have sx := sr x (by omega) h2
    refine ⟨_, rfl, _, rfl, _, _, rfl, rfl, mulx sx sx, _, rfl, _, _, rfl, rfl, _, rfl, ?_⟩
    refine if2 (fun c => ?_) (fun c => ?_)
    · have c' : x * x ≤ N := of_decide_eq_true c
      have c2 := (Th.le_rt hN (show 0 ≤ x by omega)).mpr c'
      refine ⟨_, fun σ' H1 h => h, ?_⟩
      refine ⟨_, rfl, _, _, rfl, rfl, mulx (sm_lit (a := 11) (by decide)) sx, ?_⟩
      exact ⟨(1024 * Th.rt N + 2 - 1024 * x).toNat, by omega, 1024 * x, rfl, rfl, by omega, by omega, rfl⟩
    -- downward
    have hx : Th.rt N ≤ x := by
      have c' : ¬ x * x ≤ N := of_decide_eq_false c
      have := Th.rt_lt hN (show 0 ≤ x by omega)
      omega
    refine ⟨fun m σ H' => ∃ x : Int, σ = [some (.int N), some (.int x)] ∧ H = H' ∧ 0 ≤ x ∧ Th.rt N ≤ x ∧ x ≤ 1024 * Th.rt N + 1 ∧ m = x.toNat, ⟨_, x, rfl, rfl, by omega, hx, h2, rfl⟩, ?_⟩
    rintro m σ H' ⟨x, rfl, rfl, h1, h3, h2, rfl⟩
    have sx := sr x (by omega) h2
    refine ⟨_, rfl, _, rfl, _, _, rfl, rfl, mulx sx sx, _, rfl, _, _, rfl, rfl, _, rfl, ?_⟩
    refine if2 (fun c => ?_) (fun c => ?_)
    · have c' : N < x * x := of_decide_eq_true c
      have x1 : 1 ≤ x := by
        by_cases z : x = 0
        · rw [z] at c'
          omega
        · omega
      obtain ⟨n1, n2⟩ := Th.newton_lt c' x1 hN
      have n3 := Th.newton_ge (Th.rt_spec hN).1 x1
      refine ⟨_, fun σ' H1 h => h, ?_⟩
      refine ⟨_, rfl, _, rfl, _, rfl, _, _, rfl, rfl, divw (by omega) sx, _, _, rfl, rfl, _, _, rfl, rfl, divw (b := 3) (by decide) (sm_lit (by decide)), ?_⟩
      exact ⟨((x + N / x) / 2).toNat, by omega, (x + N / x) / 2, rfl, rfl, by omega, n3, by omega, rfl⟩
    · have c' : ¬ N < x * x := of_decide_eq_false c
      have e := Th.rt_eq hN h3 (by omega)
      subst e
      exact ⟨_, rfl, k⟩
-- _law_whole: slots 0 number_here
abbrev s__law_whole : Stmt := top 22
theorem sc__law_whole : FnScope ["_law_number_here"] ["_law_number_here"] (defScope s__law_whole) := ⟨rfl, rfl, rfl, by decide +kernel, rfl, by decide +kernel, by decide +kernel⟩
def sp__law_whole (K : PySem.W.Frag) (cs : Cs) : Sp := fun vs H Q E => ∃ i : Int, vs = [.int i] ∧ Q (.bl true) H
theorem ok__law_whole {f : Addr} {fd : FuncData} (F : L2.Fun K "_law_whole" "_law_whole" s__law_whole f fd) (T : Txt K mg cs) : FnOk P w K mg base CX0 1 f fd ["_law_number_here"] (sp__law_whole K cs) := by
  refine F.ok sc__law_whole (fun vs H Q E h => ?_) (fun cdv A outer s H vs Q E hr h => ?_)
  · obtain ⟨_, rfl, _⟩ := h
    rfl
  · obtain ⟨i, rfl, k⟩ := h
    refine ⟨_, (pss_one (ps_ret (pe_and (pe_callB cr_isB (by rfl) T.n_isinstance (by decide +kernel) (pa_cons (pv 0) (pa_cons (pe_bltn (v := .ty "int") (u := .type "int") (by rfl) T.n_int (by decide +kernel) rfl) pa_nil))) (pe_one (pe_not (pe_callB cr_isB (by rfl) T.n_isinstance (by decide +kernel) (pa_cons (pv 0) (pa_cons (pe_bltn (v := .ty "bool") (u := .type "bool") (by rfl) T.n_bool (by decide +kernel) rfl) pa_nil)))))))), ?_⟩
    exact ⟨_, rfl, _, "int", "int", true, rfl, .inl ⟨⟨_, rfl⟩, rfl⟩, kb_ii, true, rfl, iteT ⟨_, rfl, _, "int", "bool", false, rfl, .inl ⟨⟨_, rfl⟩, rfl⟩, kb_ib, false, rfl, k⟩⟩
-- is_bound: slots 0 value
abbrev s_is_bound : Stmt := top 7
theorem sc_is_bound : FnScope ["value"] ["value"] (defScope s_is_bound) := ⟨rfl, rfl, rfl, by decide +kernel, rfl, by decide +kernel, by decide +kernel⟩
def sp_is_bound (K : PySem.W.Frag) (cs : Cs) : Sp := fun vs H Q E => ∃ i : Int, vs = [.int i] ∧ Q (.bl (decide (1 ≤ i))) H
theorem ok_is_bound {f : Addr} {fd : FuncData} (F : L2.Fun K "is_bound" "is_bound" s_is_bound f fd) (T : Txt K mg cs)
    (c_is_whole : C8.Cal P w K mg base 1 "is_whole" (sp_is_whole K cs) []) : FnOk P w K mg base CX0 2 f fd ["value"] (sp_is_bound K cs) := by
  refine F.ok sc_is_bound (fun vs H Q E h => ?_) (fun cdv A outer s H vs Q E hr h => ?_)
  · obtain ⟨_, rfl, _⟩ := h
    rfl
  · obtain ⟨i, rfl, k⟩ := h
    refine ⟨_, (pss_one (ps_ret (pe_and (C8.pe_c c_is_whole hr (by decide) (by rfl) (pa_cons (pv 0) pa_nil)) (pe_one (pe_cmp (pc_ge (pv 0) pe_int)))))), ?_⟩
    exact ⟨_, rfl, i, rfl, true, rfl, iteT ⟨_, rfl, _, _, rfl, rfl, k⟩⟩
-- check_number: slots 0 number, 1 first
abbrev s_check_number : Stmt := top 9
theorem sc_check_number : FnScope ["number", "first"] ["number", "first"] (defScope s_check_number) := ⟨rfl, rfl, rfl, by decide +kernel, rfl, by decide +kernel, by decide +kernel⟩
def sp_check_number (K : PySem.W.Frag) (cs : Cs) : Sp := fun vs H Q E => ∃ i f : Int, vs = [.int i, .int f] ∧ f ≤ i ∧ Q .non H
theorem ok_check_number {f : Addr} {fd : FuncData} (F : L2.Fun K "check_number" "check_number" s_check_number f fd) (T : Txt K mg cs)
    (c_is_whole : C8.Cal P w K mg base 1 "is_whole" (sp_is_whole K cs) []) : FnOk P w K mg base CX0 2 f fd ["number", "first"] (sp_check_number K cs) := by
  refine F.ok sc_check_number (fun vs H Q E h => ?_) (fun cdv A outer s H vs Q E hr h => ?_)
  · obtain ⟨_, _, rfl, _⟩ := h
    rfl
  · obtain ⟨i, f, rfl, hi, k⟩ := h
    refine ⟨_, (pss_one (ps_if (PW.pt (pw_or (pt_not (pt_val (C8.pe_c c_is_whole hr (by decide) (by rfl) (pa_cons (pv 0) pa_nil)))) (pw_or1 (pt_cmp (pc_lt (pv 0) (pv 1)))))) (pss_one (ps_never)) pss_nil)), ?_⟩
    refine ⟨_, rfl, i, rfl, true, rfl, iteF ⟨_, rfl, _, rfl, _, _, rfl, rfl, _, rfl, ?_⟩⟩
    exact ifF (decide_eq_false (by omega)) k
-- _lessers_below: slots 0 bound, 1 end
abbrev s__lessers_below : Stmt := top 14
theorem sc__lessers_below : FnScope ["bound", "end"] ["bound", "end"] (defScope s__lessers_below) := ⟨rfl, rfl, rfl, by decide +kernel, rfl, by decide +kernel, by decide +kernel⟩
def sp__lessers_below (K : PySem.W.Frag) (cs : Cs) : Sp := fun vs H Q E => ∃ b e : Int, vs = [.int b, .int e] ∧ 1 ≤ b ∧ Sm 3000 b ∧ Sm 3000 e ∧ Q (.int (Th.cnt b e)) H
theorem ok__lessers_below {f : Addr} {fd : FuncData} (F : L2.Fun K "_lessers_below" "_lessers_below" s__lessers_below f fd) (T : Txt K mg cs)
    (c__times_root : C8.Cal P w K mg base 1 "_times_root" (sp__times_root K cs) []) : FnOk P w K mg base CX0 2 f fd ["bound", "end"] (sp__lessers_below K cs) := by
  refine F.ok sc__lessers_below (fun vs H Q E h => ?_) (fun cdv A outer s H vs Q E hr h => ?_)
  · obtain ⟨_, _, rfl, _⟩ := h
    rfl
  · obtain ⟨b, e, rfl, hb, sb, se, k⟩ := h
    refine ⟨_, (pss_one (ps_ret (pe_op op_fdivW (pe_op op_add (C8.pe_c c__times_root hr (by decide) (by rfl) (pa_cons (pv 0) (pa_cons (pv 1) pa_nil))) (pe_op op_mulX (pv 1) (pe_op op_sub (pv 0) pe_int))) (pe_op op_mulX pe_int (pv 0))))), ?_⟩
    have s1 : Sm 3001 (b - 2) := sm_sub sb (sm_mono (sm_lit (a := 3) (by decide)) (by decide))
    have s2 : Sm 3003 (2 * b) := sm_mul (sm_lit (a := 3) (by decide)) sb
    refine ⟨_, rfl, _, rfl, b, e, rfl, sb, se, _, rfl, _, rfl, _, _, rfl, rfl, _, _, rfl, rfl, mulx se s1, _, _, rfl, rfl, ?_⟩
    exact ⟨_, rfl, _, _, rfl, rfl, mulx (sm_lit (a := 3) (by decide)) sb, _, _, rfl, rfl, divw (by omega) s2, k⟩
-- _law_number: slots 0 cell, 1 k, 2 limit
abbrev s__law_number : Stmt := top 18
theorem sc__law_number : FnScope ["_law_cell", "_law_k", "_law_limit"] ["_law_cell", "_law_k", "_law_limit"] (defScope s__law_number) := ⟨rfl, rfl, rfl, by decide +kernel, rfl, by decide +kernel, by decide +kernel⟩
def sp__law_number (K : PySem.W.Frag) (cs : Cs) : Sp := fun vs H Q E => ∃ c k m : Int, vs = [.int c, .int k, .int m] ∧ Sm 1048577 c ∧ 0 ≤ k ∧ k ≤ 1000 ∧ 0 < m ∧ m ≤ 900000 ∧ ∀ r H', Evl.Ex H H' → 0 ≤ r → r < M40 → Q (.int r) H'
theorem ok__law_number {f : Addr} {fd : FuncData} (F : L2.Fun K "_law_number" "_law_number" s__law_number f fd) (T : Txt K mg cs)
    (c__law_draw : C8.Cal P w K mg base 1 "_law_draw" (sp__law_draw K cs) []) : FnOk P w K mg base CX0 2 f fd ["_law_cell", "_law_k", "_law_limit"] (sp__law_number K cs) := by
  refine F.ok sc__law_number (fun vs H Q E h => ?_) (fun cdv A outer s H vs Q E hr h => ?_)
  · obtain ⟨_, _, _, rfl, _⟩ := h
    rfl
  · obtain ⟨c, j, m, rfl, sc, h0, h1, hm, hm2, k⟩ := h
    refine ⟨_, (pss_cons (ps_if (pt_cmp (pc_ge (pv 0) (pe_op op_pow pe_int pe_int))) (pss_one (ps_ret (pe_op op_mod (pe_op op_sub (pv 0) (pe_op op_pow pe_int pe_int)) (pe_op op_pow pe_int pe_int)))) pss_nil) (pss_one (ps_ret (C8.pe_c c__law_draw hr (by decide) (by rfl) (pa_cons (pe_op op_mulX (pe_op op_add (pv 0) (pe_op op_mulX pe_int (pv 1))) (pe_op op_add (pe_op op_add (pv 0) (pe_op op_mulX pe_int (pv 1))) pe_int)) (pa_cons (pe_op op_add (pe_op op_mod (pv 1) pe_int) pe_int) (pa_cons (pv 2) pa_nil))))))), ?_⟩
    refine ⟨_, rfl, _, _, rfl, rfl, pow_ok (by decide) (by decide), _, _, rfl, rfl, _, rfl, ?_⟩
    refine if2 (fun _ => ?_) (fun _ => ?_)
    · refine ⟨_, rfl, _, _, rfl, rfl, pow_ok (by decide) (by decide), _, _, rfl, rfl, _, _, rfl, rfl, pow_ok (by decide) (by decide), _, _, rfl, rfl, (by show (0 : Int) < 10 ^ (40 : Int).toNat; rw [p40]; decide), ?_⟩
      exact k _ _ (Evl.Ex.refl H) (Int.emod_nonneg _ (by rw [p40]; decide)) (by have := Int.emod_lt_of_pos (c - 10 ^ (18 : Int).toNat) (show 0 < M40 by decide); rwa [p40])
    · have sj : Sm 20 j := by unfold Sm; omega
      have s1 : Sm 1048578 (c + 977 * j) := sm_add sc (sm_mono (sm_mul (sm_lit (a := 10) (by decide)) sj) (by decide))
      have s2 : Sm 1048579 (c + 31 * j + 5) := sm_add (sm_add sc (sm_mono (sm_mul (sm_lit (a := 10) (by decide)) sj) (by decide))) (sm_mono (sm_lit (a := 3) (by decide)) (by decide))
      refine ⟨_, rfl, _, rfl, _, _, rfl, rfl, mulx (sm_lit (a := 10) (by decide)) sj, _, _, rfl, rfl, _, rfl, _, rfl, _, _, rfl, rfl, mulx (sm_lit (a := 10) (by decide)) sj, _, _, rfl, rfl, _, _, rfl, rfl, _, _, rfl, rfl, mulx s1 s2, _, rfl, _, _, rfl, rfl, (by show (0 : Int) < 9; decide), _, _, rfl, rfl, _, rfl, ?_⟩
      refine ⟨_, _, _, rfl, sm_mono (sm_mul s1 s2) (by decide), (by unfold Sm; omega), (by omega), hm, fun r H1 e h3 h4 => k r H1 e h3 (by show r < M40; unfold M40; omega)⟩
-- _law_pair: slots 0 by, 1 at, 2 square, 3 least
abbrev s__law_pair : Stmt := top 20
theorem sc__law_pair : FnScope ["_law_by", "_law_at", "_law_square", "_law_least"] ["_law_by", "_law_at"] (defScope s__law_pair) := ⟨rfl, rfl, rfl, by decide +kernel, rfl, by decide +kernel, by decide +kernel⟩
def sp__law_pair (K : PySem.W.Frag) (cs : Cs) : Sp := fun vs H Q E => ∃ b n : Int, vs = [.int b, .int n] ∧ Sm 1000 b ∧ Sm 1000 n ∧ ∀ p H', Evl.Ex H H' → H' p = some (.tup [.int (Th.A b n), .int (Th.B b n)]) → Q (.ref p) H'
theorem ok__law_pair {f : Addr} {fd : FuncData} (F : L2.Fun K "_law_pair" "_law_pair" s__law_pair f fd) (T : Txt K mg cs)
    (c__law_root : C8.Cal P w K mg base 1 "_law_root" (sp__law_root K cs) []) : FnOk P w K mg base CX0 2 f fd ["_law_by", "_law_at"] (sp__law_pair K cs) := by
  refine F.ok sc__law_pair (fun vs H Q E h => ?_) (fun cdv A outer s H vs Q E hr h => ?_)
  · obtain ⟨_, _, rfl, _⟩ := h
    rfl
  · obtain ⟨b, n, rfl, sb, sn, k⟩ := h
    refine ⟨_, (pss_cons (ps_set (i := 2) sc__law_pair.nd rfl (Or.inl rfl) (pe_op op_mulX (pe_op op_mulX (pv 1) (pv 1)) (pe_op op_add (pe_op op_mulX (pv 0) (pv 0)) pe_int))) (pss_cons (ps_set (i := 3) sc__law_pair.nd rfl (Or.inl rfl) (pe_op op_fdivW (pe_op op_add (pe_op op_mulX (pv 1) (pe_op op_sub pe_int (pv 0))) (C8.pe_c c__law_root hr (by decide) (by rfl) (pa_cons (pv 2) pa_nil))) pe_int)) (pss_one (ps_ret (pe_tup (pa_cons (pv 3) (pa_cons (pe_op op_add (pv 3) (pe_op op_mulX (pv 0) (pv 1))) pa_nil))))))), ?_⟩
    have s1 := sm_mul sn sn
    have s2 := sm_mul sb sb
    have s3 : Sm 2001 (b * b + 4) := sm_add s2 (sm_mono (sm_lit (a := 3) (by decide)) (by decide))
    have s4 := sm_mul s1 s3
    have s5 : Sm 1001 (2 - b) := sm_sub (sm_mono (sm_lit (a := 3) (by decide)) (by decide)) sb
    refine ⟨_, rfl, _, rfl, _, _, rfl, rfl, mulx sn sn, _, rfl, _, rfl, _, _, rfl, rfl, mulx sb sb, _, _, rfl, rfl, _, _, rfl, rfl, mulx s1 s3, ?_⟩
    refine ⟨_, rfl, _, rfl, _, _, rfl, rfl, _, _, rfl, rfl, mulx sn s5, _, rfl, _, rfl, Th.D_nn b n, sm_mono s4 (by decide), _, _, rfl, rfl, _, _, rfl, rfl, divw (b := 3) (by decide) (sm_lit (by decide)), ?_⟩
    have e : (n * (2 - b) + Th.rt (n * n * (b * b + 4))) / 2 = Th.A b n := Th.law_least b n
    refine ⟨_, rfl, _, rfl, _, rfl, _, rfl, _, _, rfl, rfl, mulx sb sn, _, _, rfl, rfl, (by show 2 ≤ sizeLine; decide), fun p hp => ?_⟩
    refine k p _ (ex_new hp) ?_
    unfold Th.B
    rw [← e]
    exact upd_same
-- _law_is_pair: slots 0 found
abbrev s__law_is_pair : Stmt := top 23
theorem sc__law_is_pair : FnScope ["_law_found"] ["_law_found"] (defScope s__law_is_pair) := ⟨rfl, rfl, rfl, by decide +kernel, rfl, by decide +kernel, by decide +kernel⟩
def sp__law_is_pair (K : PySem.W.Frag) (cs : Cs) : Sp := fun vs H Q E => ∃ (p : Addr) (i j : Int), vs = [.ref p] ∧ H p = some (.tup [.int i, .int j]) ∧ Q (.bl true) H
theorem ok__law_is_pair {f : Addr} {fd : FuncData} (F : L2.Fun K "_law_is_pair" "_law_is_pair" s__law_is_pair f fd) (T : Txt K mg cs)
    (c__law_whole : C8.Cal P w K mg base 1 "_law_whole" (sp__law_whole K cs) []) : FnOk P w K mg base CX0 2 f fd ["_law_found"] (sp__law_is_pair K cs) := by
  refine F.ok sc__law_is_pair (fun vs H Q E h => ?_) (fun cdv A outer s H vs Q E hr h => ?_)
  · obtain ⟨_, _, _, rfl, _⟩ := h
    rfl
  · obtain ⟨p, i, j, rfl, hp, k⟩ := h
    refine ⟨_, (pss_one (ps_ret (pe_and (pe_callB cr_isB (by rfl) T.n_isinstance (by decide +kernel) (pa_cons (pv 0) (pa_cons (pe_bltn (v := .ty "tuple") (u := .type "tuple") (by rfl) T.n_tuple (by decide +kernel) rfl) pa_nil))) (pe_and (pe_cmp (pc_eqI (pe_callB call_len_seq (by rfl) T.n_len (by decide +kernel) (pa_cons (pv 0) pa_nil)) pe_int)) (pe_and (C8.pe_c c__law_whole hr (by decide) (by rfl) (pa_cons (pe_ix ix_tup (pv 0) pe_int (fun _ _ => rfl)) pa_nil)) (pe_one (C8.pe_c c__law_whole hr (by decide) (by rfl) (pa_cons (pe_ix ix_tup (pv 0) pe_int (fun _ _ => rfl)) pa_nil)))))))), ?_⟩
    exact ⟨_, rfl, _, "tuple", "tuple", true, rfl, .inr (.inr ⟨⟨p, _, rfl, hp⟩, rfl⟩), kb_tt, true, rfl, iteT ⟨_, rfl, p, _, rfl, .inr (SqT.of hp), _, _, rfl, rfl, true, rfl, iteT ⟨_, rfl, p, _, _, _, rfl, rfl, SqT.of hp, at0, i, rfl, true, rfl, iteT ⟨_, rfl, p, _, _, _, rfl, rfl, SqT.of hp, at1, j, rfl, k⟩⟩⟩⟩
-- check_bound: slots 0 bound
abbrev s_check_bound : Stmt := top 8
theorem sc_check_bound : FnScope ["bound"] ["bound"] (defScope s_check_bound) := ⟨rfl, rfl, rfl, by decide +kernel, rfl, by decide +kernel, by decide +kernel⟩
def sp_check_bound (K : PySem.W.Frag) (cs : Cs) : Sp := fun vs H Q E => ∃ i : Int, vs = [.int i] ∧ 1 ≤ i ∧ Q .non H
theorem ok_check_bound {f : Addr} {fd : FuncData} (F : L2.Fun K "check_bound" "check_bound" s_check_bound f fd) (T : Txt K mg cs)
    (c_is_bound : C8.Cal P w K mg base 2 "is_bound" (sp_is_bound K cs) []) : FnOk P w K mg base CX0 3 f fd ["bound"] (sp_check_bound K cs) := by
  refine F.ok sc_check_bound (fun vs H Q E h => ?_) (fun cdv A outer s H vs Q E hr h => ?_)
  · obtain ⟨_, rfl, _⟩ := h
    rfl
  · obtain ⟨i, rfl, hi, k⟩ := h
    refine ⟨_, (pss_one (ps_if (pt_not (pt_val (C8.pe_c c_is_bound hr (by decide) (by rfl) (pa_cons (pv 0) pa_nil)))) (pss_one (ps_never)) pss_nil)), ?_⟩
    refine ⟨_, rfl, i, rfl, _, rfl, ?_⟩
    exact ifF (by rw [decide_eq_true hi]; rfl) k
-- _law_bound: slots 0 script, 1 k, 2 cell, 3 number_here
abbrev s__law_bound : Stmt := top 21
theorem sc__law_bound : FnScope ["_law_script", "_law_k", "_law_cell", "_law_number_here"] ["_law_script", "_law_k"] (defScope s__law_bound) := ⟨rfl, rfl, rfl, by decide +kernel, rfl, by decide +kernel, by decide +kernel⟩
def sp__law_bound (K : PySem.W.Frag) (cs : Cs) : Sp := fun vs H Q E => ∃ (a : Addr) (ns : List Int) (k : Int), vs = [.ref a, .int k] ∧ SqL K H a (ns.map V.int) ∧ CellsSm ns ∧ 0 ≤ k ∧ k ≤ 900 ∧ ∀ b H', Evl.Ex H H' → 1 ≤ b → b ≤ M40 → Q (.int b) H'
theorem ok__law_bound {f : Addr} {fd : FuncData} (F : L2.Fun K "_law_bound" "_law_bound" s__law_bound f fd) (T : Txt K mg cs)
    (c__law_cell_at : C8.Cal P w K mg base 1 "_law_cell_at" (sp__law_cell_at K cs) [])
    (c__law_draw : C8.Cal P w K mg base 1 "_law_draw" (sp__law_draw K cs) [])
    (c__law_number : C8.Cal P w K mg base 2 "_law_number" (sp__law_number K cs) []) : FnOk P w K mg base CX0 3 f fd ["_law_script", "_law_k"] (sp__law_bound K cs) := by
  refine F.ok sc__law_bound (fun vs H Q E h => ?_) (fun cdv A outer s H vs Q E hr h => ?_)
  · obtain ⟨_, _, _, rfl, _⟩ := h
    rfl
  · obtain ⟨a, ns, j, rfl, hs, hz, h0, h1, k⟩ := h
    refine ⟨_, (pss_cons (ps_set (i := 2) sc__law_bound.nd rfl (Or.inl rfl) (C8.pe_c c__law_cell_at hr (by decide) (by rfl) (pa_cons (pv 0) (pa_cons (pe_op op_add (pv 1) pe_int) pa_nil)))) (pss_cons (ps_set (i := 3) sc__law_bound.nd rfl (Or.inl rfl) (C8.pe_c c__law_number hr (by decide) (by rfl) (pa_cons (pv 2) (pa_cons (pv 1) (pa_cons pe_int pa_nil))))) (pss_one (ps_ret (pe_ix ix_tup (pe_tup (pa_cons pe_int (pa_cons pe_int (pa_cons (pe_op op_add pe_int (pe_op op_mod (pv 3) pe_int)) (pa_cons (pe_op op_add pe_int (pe_op op_mod (pv 3) pe_int)) (pa_cons (pe_op op_add pe_int (pv 3)) pa_nil)))))) (C8.pe_c c__law_draw hr (by decide) (by rfl) (pa_cons (pe_op op_add (pe_op op_mod (pv 2) (pe_op op_pow pe_int pe_int)) (pe_op op_mulX pe_int (pv 1))) (pa_cons pe_int (pa_cons pe_int pa_nil)))) (fun _ _ => rfl)))))), ?_⟩
    refine ⟨_, rfl, _, rfl, _, _, rfl, rfl, a, ns, _, rfl, hs, (by omega), ?_⟩
    have sc := sm_cell hz (j + 1).toNat
    generalize ns.getD (j + 1).toNat 0 = c at *
    refine ⟨_, rfl, _, rfl, c, j, 900000, rfl, sc, h0, (by omega), (by decide), (by decide), fun n H1 e1 n0 n1 => ?_⟩
    have sj : Sm 20 j := by unfold Sm; omega
    have sm18 : Sm 100 (c % 10 ^ (18 : Int).toNat) := by
      have i1 := Int.emod_nonneg c (show M18 ≠ 0 by decide)
      have i2 := Int.emod_lt_of_pos c (show 0 < M18 by decide)
      rw [p18]
      unfold Sm
      omega
    refine ⟨_, rfl, _, _, rfl, rfl, (by show (0 : Int) < 9; decide), _, _, rfl, rfl, _, rfl, _, _, rfl, rfl, (by show (0 : Int) < 1000; decide), _, _, rfl, rfl, _, rfl, _, _, rfl, rfl, (by show 5 ≤ sizeLine; decide), fun p hp => ?_⟩
    refine ⟨_, rfl, _, _, rfl, rfl, pow_ok (by decide) (by decide), _, _, rfl, rfl, (by show (0 : Int) < 10 ^ (18 : Int).toNat; rw [p18]; decide), _, rfl, _, _, rfl, rfl, mulx (sm_lit (a := 10) (by decide)) sj, _, _, rfl, rfl, ?_⟩
    refine ⟨_, 5, 5, rfl, sm_mono (sm_add sm18 (sm_mono (sm_mul (sm_lit (a := 10) (by decide)) sj) (by decide))) (by decide), sm_mono (sm_lit (a := 3) (by decide)) (by decide), (by decide), (by decide), fun r H2 e2 r0 r1 => ?_⟩
    obtain ⟨v, hv, hmem⟩ := at_in (xs := [.int 1, .int 2, .int (1 + n % 9), .int (1 + n % 1000), .int (1 + n)]) r0 (by show r < 5; exact r1)
    obtain ⟨z, rfl, hz1, hz2⟩ : ∃ z : Int, v = .int z ∧ 1 ≤ z ∧ z ≤ M40 := by
      simp only [List.mem_cons, List.not_mem_nil, or_false] at hmem
      rcases hmem with h | h | h | h | h
      · exact ⟨_, h, by decide, by decide⟩
      · exact ⟨_, h, by decide, by decide⟩
      · exact ⟨_, h, by omega, by show _ ≤ M40; omega⟩
      · exact ⟨_, h, by omega, by show _ ≤ M40; omega⟩
      · exact ⟨_, h, by omega, by show _ ≤ M40; omega⟩
    exact ⟨p, _, _, _, rfl, rfl, SqT.of (e2 p _ upd_same), hv, k _ _ (e1.trans ((ex_new hp).trans e2)) hz1 hz2⟩
-- pair_by: slots 0 bound, 1 number, 2 lesser
abbrev s_pair_by : Stmt := top 11
theorem sc_pair_by : FnScope ["bound", "number", "lesser"] ["bound", "number"] (defScope s_pair_by) := ⟨rfl, rfl, rfl, by decide +kernel, rfl, by decide +kernel, by decide +kernel⟩
def sp_pair_by (K : PySem.W.Frag) (cs : Cs) : Sp := fun vs H Q E => ∃ b n : Int, vs = [.int b, .int n] ∧ 1 ≤ b ∧ 0 ≤ n ∧ Sm 3000 b ∧ Sm 3000 n ∧ ∀ p H', Evl.Ex H H' → H' p = some (.tup [.int (Th.A b n), .int (Th.B b n)]) → Q (.ref p) H'
theorem ok_pair_by {f : Addr} {fd : FuncData} (F : L2.Fun K "pair_by" "pair_by" s_pair_by f fd) (T : Txt K mg cs)
    (c__times_root : C8.Cal P w K mg base 1 "_times_root" (sp__times_root K cs) [])
    (c_check_number : C8.Cal P w K mg base 2 "check_number" (sp_check_number K cs) [])
    (c_check_bound : C8.Cal P w K mg base 3 "check_bound" (sp_check_bound K cs) []) : FnOk P w K mg base CX0 4 f fd ["bound", "number"] (sp_pair_by K cs) := by
  refine F.ok sc_pair_by (fun vs H Q E h => ?_) (fun cdv A outer s H vs Q E hr h => ?_)
  · obtain ⟨_, _, rfl, _⟩ := h
    rfl
  · obtain ⟨b, n, rfl, hb, hn, sb, sn, k⟩ := h
    refine ⟨_, (pss_cons (ps_expr (C8.pe_c c_check_bound hr (by decide) (by rfl) (pa_cons (pv 0) pa_nil))) (pss_cons (ps_expr (C8.pe_c c_check_number hr (by decide) (by rfl) (pa_cons (pv 1) (pa_cons pe_int pa_nil)))) (pss_cons (ps_set (i := 2) sc_pair_by.nd rfl (Or.inl rfl) (pe_op op_fdivW (pe_op op_sub (C8.pe_c c__times_root hr (by decide) (by rfl) (pa_cons (pv 0) (pa_cons (pv 1) pa_nil))) (pe_op op_mulX (pv 1) (pe_op op_sub (pv 0) pe_int))) pe_int)) (pss_one (ps_ret (pe_tup (pa_cons (pv 2) (pa_cons (pe_op op_add (pv 2) (pe_op op_mulX (pv 0) (pv 1))) pa_nil)))))))), ?_⟩
    refine ⟨_, rfl, b, rfl, hb, _, rfl, n, 0, rfl, hn, ?_⟩
    have s1 : Sm 3001 (b - 2) := sm_sub sb (sm_mono (sm_lit (a := 3) (by decide)) (by decide))
    refine ⟨_, rfl, _, rfl, b, n, rfl, sb, sn, _, rfl, _, rfl, _, _, rfl, rfl, _, _, rfl, rfl, mulx sn s1, _, _, rfl, rfl, _, _, rfl, rfl, divw (b := 3) (by decide) (sm_lit (by decide)), ?_⟩
    exact ⟨_, rfl, _, rfl, _, rfl, _, rfl, _, _, rfl, rfl, mulx sb sn, _, _, rfl, rfl, (by show 2 ≤ sizeLine; decide), fun p hp => k p _ (ex_new hp) upd_same⟩
-- pair_with: slots 0 bound, 1 number, 2 lessers
abbrev s_pair_with : Stmt := top 12
theorem sc_pair_with : FnScope ["bound", "number", "lessers"] ["bound", "number"] (defScope s_pair_with) := ⟨rfl, rfl, rfl, by decide +kernel, rfl, by decide +kernel, by decide +kernel⟩
def sp_pair_with (K : PySem.W.Frag) (cs : Cs) : Sp := fun vs H Q E => ∃ b n : Int, vs = [.int b, .int n] ∧ 1 ≤ b ∧ 1 ≤ n ∧ Sm 2900 b ∧ Sm 2900 n ∧ ∀ H', Evl.Ex H H' → Q (.int (Th.pw b n)) H'
theorem ok_pair_with {f : Addr} {fd : FuncData} (F : L2.Fun K "pair_with" "pair_with" s_pair_with f fd) (T : Txt K mg cs)
    (c_check_number : C8.Cal P w K mg base 2 "check_number" (sp_check_number K cs) [])
    (c__lessers_below : C8.Cal P w K mg base 2 "_lessers_below" (sp__lessers_below K cs) [])
    (c_check_bound : C8.Cal P w K mg base 3 "check_bound" (sp_check_bound K cs) [])
    (c_pair_by : C8.Cal P w K mg base 4 "pair_by" (sp_pair_by K cs) []) : FnOk P w K mg base CX0 5 f fd ["bound", "number"] (sp_pair_with K cs) := by
  refine F.ok sc_pair_with (fun vs H Q E h => ?_) (fun cdv A outer s H vs Q E hr h => ?_)
  · obtain ⟨_, _, rfl, _⟩ := h
    rfl
  · obtain ⟨b, n, rfl, hb, hn, sb, sn, k⟩ := h
    refine ⟨_, (pss_cons (ps_expr (C8.pe_c c_check_bound hr (by decide) (by rfl) (pa_cons (pv 0) pa_nil))) (pss_cons (ps_expr (C8.pe_c c_check_number hr (by decide) (by rfl) (pa_cons (pv 1) (pa_cons pe_int pa_nil)))) (pss_cons (ps_set (i := 2) sc_pair_with.nd rfl (Or.inl rfl) (C8.pe_c c__lessers_below hr (by decide) (by rfl) (pa_cons (pv 0) (pa_cons (pe_op op_add (pv 1) pe_int) pa_nil)))) (pss_cons (ps_if (pt_cmp (pc_eqI (pe_ix ix_tup (C8.pe_c c_pair_by hr (by decide) (by rfl) (pa_cons (pv 0) (pa_cons (pv 2) pa_nil))) pe_int (fun _ _ => rfl)) (pv 1))) (pss_one (ps_ret (pv 2))) pss_nil) (pss_one (ps_ret (pe_op op_sub (pv 1) (pv 2)))))))), ?_⟩
    have se : Sm 2901 (n + 1) := sm_add sn (sm_mono (sm_lit (a := 3) (by decide)) (by decide))
    have sb' : Sm 3000 b := sm_mono sb (by decide)
    refine ⟨_, rfl, b, rfl, hb, _, rfl, n, 1, rfl, hn, ?_⟩
    refine ⟨_, rfl, _, rfl, _, _, rfl, rfl, b, n + 1, rfl, hb, sb', sm_mono se (by decide), ?_⟩
    obtain ⟨c1, c2⟩ := Th.cnt_spec (b := b) (e := n + 1) hb (by omega)
    have c0 := Th.cnt_nn (b := b) (e := n + 1) hb (by omega)
    have c3 := Th.A_ge hb c0
    refine ⟨_, rfl, _, rfl, b, _, rfl, hb, c0, sb', sm_mono (sm_le sn c0 (by omega)) (by decide), fun p H1 e hp => ?_⟩
    refine ⟨p, _, _, _, rfl, rfl, SqT.of hp, at0, _, rfl, _, _, rfl, rfl, _, rfl, ?_⟩
    by_cases c : Th.A b (Th.cnt b (n + 1)) = n
    · have q := k _ e
      unfold Th.pw at q
      rw [if_pos c] at q
      exact ifT (decide_eq_true c) ⟨_, rfl, q⟩
    · have q := k _ e
      unfold Th.pw at q
      rw [if_neg c] at q
      exact ifF (decide_eq_false c) ⟨_, rfl, _, rfl, _, _, rfl, rfl, q⟩
-- _law_first_right: slots 0 bound_here, 1 seen, 2 now, 3 number_here
abbrev s__law_first_right : Stmt := top 25
theorem sc__law_first_right : FnScope ["_law_bound_here", "_law_seen", "_law_now", "_law_number_here"] ["_law_bound_here"] (defScope s__law_first_right) := ⟨rfl, rfl, rfl, by decide +kernel, rfl, by decide +kernel, by decide +kernel⟩
def sp__law_first_right (K : PySem.W.Frag) (cs : Cs) : Sp := fun vs H Q E => ∃ b : Int, vs = [.int b] ∧ 1 ≤ b ∧ b ≤ M40 ∧ ∀ H', Evl.Ex H H' → Q (.bl true) H'
theorem ok__law_first_right {f : Addr} {fd : FuncData} (F : L2.Fun K "_law_first_right" "_law_first_right" s__law_first_right f fd) (T : Txt K mg cs)
    (c_pair_by : C8.Cal P w K mg base 4 "pair_by" (sp_pair_by K cs) []) : FnOk P w K mg base CX0 5 f fd ["_law_bound_here"] (sp__law_first_right K cs) := by
  refine F.ok sc__law_first_right (fun vs H Q E h => ?_) (fun cdv A outer s H vs Q E hr h => ?_)
  · obtain ⟨_, rfl, _⟩ := h
    rfl
  · obtain ⟨b, rfl, hb, hb2, k⟩ := h
    refine ⟨_, (pss_cons (ps_par (i := 1) (j := 2) (by rfl) sc__law_first_right.nd rfl rfl (by decide) rfl rfl (pa_cons pe_dnewK (pa_cons pe_int pa_nil)) (by rfl)) (pss_cons (ps_for PassesOwn.never rfl (pi_range2 (by rfl) T.n_range (pa_cons pe_int (pa_cons pe_int pa_nil))) (pg_name (i := 3) sc__law_first_right.nd rfl (Or.inl rfl)) (pss_cons (ps_while PassesOwn.never (pt_cmp (pc_din (hu_of hr) (pv 2) (pv 1))) (pss_one (ps_set (i := 2) sc__law_first_right.nd rfl (Or.inl rfl) (pe_op op_add (pv 2) pe_int)))) (pss_cons (ps_if (pt_cmpR (op_neP hr.units) (C8.pe_c c_pair_by hr (by decide) (by rfl) (pa_cons (pv 0) (pa_cons (pv 3) pa_nil))) (pe_tup (pa_cons (pv 2) (pa_cons (pe_op op_add (pv 2) (pe_op op_mulX (pv 0) (pv 3))) pa_nil))) (nomark _)) (pss_one (ps_ret pe_bl)) pss_nil) (pss_cons (ps_dput (hu_of hr) (pv 1) (pv 2) pe_bl rfl) (pss_one (ps_dput (hu_of hr) (pv 1) (pe_op op_add (pv 2) (pe_op op_mulX (pv 0) (pv 3))) pe_bl rfl)))))) (pss_one (ps_ret pe_bl)))), ?_⟩
    have sb : Sm 134 b := sm_m40 (by omega) (by omega)
    refine fun d hd => ⟨_, _, rfl, ?_⟩
    refine ⟨1, 31, rfl, ⟨by decide, by decide, by decide, by decide⟩, for_range (lo := 1) (n := 30) (fun i σ H' => ∃ (v : Option V) (x : Int) (kvs : List (Key × V)),
        σ = [some (.int b), some (.ref d), some (.int x), v] ∧ Evl.Ex H H' ∧ H' d = some (.dK kvs) ∧ 1 ≤ x ∧ x ≤ Th.A b (i + 1) ∧ kvs.length ≤ 2 * i ∧
        ∀ z : Int, (valV kvs (Sum.inl z)).isSome = true ↔ ∃ m : Int, 1 ≤ m ∧ m < i + 1 ∧ (z = Th.A b m ∨ z = Th.B b m))
      ⟨none, 1, [], rfl, ex_new hd, upd_same, Int.le_refl 1, (by rw [show ((0 : Nat) : Int) + 1 = 1 from rfl, Th.A_one hb]; exact Int.le_refl 1), Nat.le_refl _, fun z => ⟨(fun h => by cases h), fun ⟨m, h1, h2, _⟩ => by have h2' : m < 0 + 1 := h2; omega⟩⟩ ?_ ?_⟩
    · rintro i σ H' hi ⟨v, x, kvs, rfl, e1, hd1, hx, hxl, hl, hk⟩
      have hi1 : (1 : Int) ≤ (i : Int) + 1 := by omega
      -- up to the first that is free
      refine ⟨fun m σ H2 => ∃ y : Int, σ = [some (.int b), some (.ref d), some (.int y), some (.int (1 + i))] ∧ H' = H2 ∧ 1 ≤ y ∧ y ≤ Th.A b (i + 1) ∧ m = (Th.A b (i + 1) - y).toNat, ⟨_, x, rfl, rfl, hx, hxl, rfl⟩, ?_⟩
      rintro m σ H2 ⟨y, rfl, rfl, hy, hyl, rfl⟩
      refine ⟨_, rfl, _, rfl, d, _, rfl, DGet.k (k := Sum.inl y) hd1, _, rfl, ?_⟩
      refine if2 (fun c => ?_) (fun c => ?_)
      · obtain ⟨m, h1, h2, h3⟩ := (hk y).mp c
        have ne := Th.ahead_ne hb h1 h2 h3
        refine ⟨_, fun σ' H1 h => h, ?_⟩
        exact ⟨_, rfl, _, _, rfl, rfl, (Th.A b (i + 1) - (y + 1)).toNat, by omega, y + 1, rfl, rfl, by omega, by omega, rfl⟩
      · have ey : y = Th.A b (i + 1) := Th.first_free hb hi1 hy hyl fun m h1 h2 => by
          have nn : ¬ (y = Th.A b m ∨ y = Th.B b m) := fun h3 => by
            rw [(hk y).mpr ⟨m, h1, h2, h3⟩] at c
            cases c
          exact ⟨fun h => nn (.inl h), fun h => nn (.inr h)⟩
        have ei : (1 : Int) + i = i + 1 := Int.add_comm _ _
        have si : Sm 134 (1 + (i : Int)) := sm_mono (show Sm 10 (1 + (i : Int)) by unfold Sm; omega) (by decide)
        refine ⟨_, rfl, _, rfl, b, 1 + i, rfl, hb, (by omega), sm_mono sb (by decide), sm_mono si (by decide), fun p H2 e2 hp => ?_⟩
        refine ⟨_, rfl, _, rfl, _, rfl, _, rfl, _, _, rfl, rfl, mulx sb si, _, _, rfl, rfl, (by show 2 ≤ sizeLine; decide), fun q hq => ⟨p, q, _, _, _, _, rfl, rfl, ex_new hq _ _ hp, upd_same, _, rfl, ?_⟩⟩
        have eb : y + b * (1 + i) = Th.B b (i + 1) := by
          unfold Th.B
          rw [ei, ey]
        refine ifF (nd ⟨by rw [ei, ey], by rw [eb, ei]⟩) ?_
        have e3 : Evl.Ex H' _ := e2.trans (ex_new (o := .tup [.int y, .int (y + b * (1 + i))]) hq)
        have hd3 := e3 _ _ hd1
        have hl1 := length_putK kvs (Sum.inl y) (.bl true)
        refine ⟨_, rfl, _, rfl, d, _, rfl, DPut.k (k := Sum.inl y) hd3 (small1000 (by omega)), ?_⟩
        refine ⟨_, rfl, _, rfl, _, rfl, _, rfl, _, _, rfl, rfl, mulx sb si, _, _, rfl, rfl, d, _, rfl, DPut.k (k := Sum.inl (y + b * (1 + i))) upd_same (small1000 (by omega)), ?_⟩
        have hl2 := length_putK (putK kvs (Sum.inl y) (V.bl true)) (Sum.inl (y + b * (1 + i))) (.bl true)
        refine ⟨_, y, _, rfl, fun a o h => ?_, upd_same, hy, ?_, by omega, fun z => ?_⟩
        · have nd : a ≠ d := fun h2 => by
            rw [h2, hd] at h
            cases h
          rw [upd_ne nd, upd_ne nd]
          exact e3 _ _ (e1 _ _ h)
        · have u := Th.A_step (b := b) (n := i + 1) hb (by omega)
          have ec : (((i + 1 : Nat) : Int) + 1) = (i : Int) + 1 + 1 := by omega
          rw [ec, ey]
          omega
        · rw [valV_put, valV_put]
          have ec : (((i + 1 : Nat) : Int) + 1) = (i : Int) + 1 + 1 := by omega
          rw [ec]
          by_cases z1 : z = y + b * (1 + i)
          · rw [if_pos (by rw [z1])]
            exact ⟨fun _ => ⟨i + 1, hi1, by omega, .inr (z1.trans eb)⟩, fun _ => rfl⟩
          · rw [if_neg (fun h => z1 (Sum.inl.inj h))]
            by_cases z2 : z = y
            · rw [if_pos (by rw [z2])]
              exact ⟨fun _ => ⟨i + 1, hi1, by omega, .inl (z2.trans ey)⟩, fun _ => rfl⟩
            · rw [if_neg (fun h => z2 (Sum.inl.inj h))]
              constructor
              · intro h
                obtain ⟨m, h1, h2, h3⟩ := (hk z).mp h
                exact ⟨m, h1, by omega, h3⟩
              · rintro ⟨m, h1, h2, h3⟩
                have hm : m < i + 1 := by
                  by_cases cm : m = i + 1
                  · subst cm
                    rcases h3 with h3 | h3
                    · exact absurd (h3.trans ey.symm) z2
                    · exact absurd (h3.trans eb.symm) z1
                  · omega
                exact (hk z).mpr ⟨m, h1, hm, h3⟩
    · rintro σ H' ⟨v, x, kvs, rfl, e1, _⟩
      exact k _ e1
-- _law_right: slots 0 bound_here, 1 number_here, 2 pair_here, 3 after, 4 one
abbrev s__law_right : Stmt := top 24
theorem sc__law_right : FnScope ["_law_bound_here", "_law_number_here", "_law_pair_here", "_law_after", "_law_one"] ["_law_bound_here", "_law_number_here"] (defScope s__law_right) := ⟨rfl, rfl, rfl, by decide +kernel, rfl, by decide +kernel, by decide +kernel⟩
def sp__law_right (K : PySem.W.Frag) (cs : Cs) : Sp := fun vs H Q E => ∃ b n : Int, vs = [.int b, .int n] ∧ 1 ≤ b ∧ b ≤ M40 ∧ 0 ≤ n ∧ n ≤ M40 ∧ ∀ H', Evl.Ex H H' → Q (.bl true) H'
theorem ok__law_right {f : Addr} {fd : FuncData} (F : L2.Fun K "_law_right" "_law_right" s__law_right f fd) (T : Txt K mg cs)
    (c__law_pair : C8.Cal P w K mg base 2 "_law_pair" (sp__law_pair K cs) [])
    (c__law_is_pair : C8.Cal P w K mg base 2 "_law_is_pair" (sp__law_is_pair K cs) [])
    (c_pair_by : C8.Cal P w K mg base 4 "pair_by" (sp_pair_by K cs) [])
    (c_pair_with : C8.Cal P w K mg base 5 "pair_with" (sp_pair_with K cs) []) : FnOk P w K mg base CX0 6 f fd ["_law_bound_here", "_law_number_here"] (sp__law_right K cs) := by
  refine F.ok sc__law_right (fun vs H Q E h => ?_) (fun cdv A outer s H vs Q E hr h => ?_)
  · obtain ⟨_, _, rfl, _⟩ := h
    rfl
  · obtain ⟨b, n, rfl, hb, hb2, hn, hn2, k⟩ := h
    refine ⟨_, (pss_cons (ps_par (i := 2) (j := 3) (by rfl) sc__law_right.nd rfl rfl (by decide) rfl rfl (pa_cons (C8.pe_c c_pair_by hr (by decide) (by rfl) (pa_cons (pv 0) (pa_cons (pv 1) pa_nil))) (pa_cons (C8.pe_c c_pair_by hr (by decide) (by rfl) (pa_cons (pv 0) (pa_cons (pe_op op_add (pv 1) pe_int) pa_nil))) pa_nil)) (by rfl)) (pss_cons (ps_if (PW.pt (pw_or (pt_not (pt_val (C8.pe_c c__law_is_pair hr (by decide) (by rfl) (pa_cons (pv 2) pa_nil)))) (pw_or1 (pt_cmpR (op_neP hr.units) (pv 2) (C8.pe_c c__law_pair hr (by decide) (by rfl) (pa_cons (pv 0) (pa_cons (pv 1) pa_nil))) (nomark _))))) (pss_one (ps_ret pe_bl)) pss_nil) (pss_cons (ps_if (pt_cmp (pc_neI (pe_op op_sub (pe_ix ix_tup (pv 2) pe_int (fun _ _ => rfl)) (pe_ix ix_tup (pv 2) pe_int (fun _ _ => rfl))) (pe_op op_mulX (pv 0) (pv 1)))) (pss_one (ps_ret pe_bl)) pss_nil) (pss_cons (ps_if (PW.pt (pw_or (pt_not (pt_cmp (pc_lt (pe_ix ix_tup (pv 2) pe_int (fun _ _ => rfl)) (pe_ix ix_tup (pv 3) pe_int (fun _ _ => rfl))))) (pw_or1 (pt_not (pt_cmp (pc_lt (pe_ix ix_tup (pv 2) pe_int (fun _ _ => rfl)) (pe_ix ix_tup (pv 3) pe_int (fun _ _ => rfl)))))))) (pss_one (ps_ret pe_bl)) pss_nil) (pss_cons (ps_if (pt_cmp (pc_eqI (pv 1) pe_int)) (pss_one (ps_ret (pe_cmpR (op_eqP hr.units) (pv 2) (pe_tup (pa_cons pe_int (pa_cons pe_int pa_nil))) (nomark _)))) pss_nil) (pss_cons (ps_for PassesOwn.never rfl (pi_tup (pv 2)) (pg_name (i := 4) sc__law_right.nd rfl (Or.inl rfl)) (pss_one (ps_if (pt_cmp (pc_neI (C8.pe_c c_pair_with hr (by decide) (by rfl) (pa_cons (pv 0) (pa_cons (pv 4) pa_nil))) (pv 1))) (pss_one (ps_ret pe_bl)) pss_nil))) (pss_one (ps_ret (pe_cmpR op_in_seq (pv 1) (C8.pe_c c_pair_by hr (by decide) (by rfl) (pa_cons (pv 0) (pa_cons (C8.pe_c c_pair_with hr (by decide) (by rfl) (pa_cons (pv 0) (pa_cons (pv 1) pa_nil))) pa_nil))) (by rfl)))))))))), ?_⟩
    have sb : Sm 134 b := sm_m40 (by omega) (by omega)
    have sn : Sm 134 n := sm_m40 hn (by omega)
    have sn1 : Sm 135 (n + 1) := sm_add sn (sm_mono (sm_lit (a := 1) (by decide)) (by decide))
    have gA := Th.A_ge hb hn
    have lA := Th.A_le hb hn
    have lB := Th.B_le hb hn
    have gB := Th.B_ge hb hn
    refine ⟨_, rfl, _, rfl, b, n, rfl, hb, hn, sm_mono sb (by decide), sm_mono sn (by decide), fun p H1 e1 hp => ?_⟩
    refine ⟨_, rfl, _, rfl, _, _, rfl, rfl, b, n + 1, rfl, hb, (by omega), sm_mono sb (by decide), sm_mono sn1 (by decide), fun q H2 e2 hq => ?_⟩
    refine ⟨_, _, rfl, ?_⟩
    have hp2 := e2 _ _ hp
    refine ⟨_, rfl, p, _, _, rfl, hp2, true, rfl, iteF ⟨_, rfl, _, rfl, _, rfl, b, n, rfl, sm_mono sb (by decide), sm_mono sn (by decide), fun r H3 e3 hr3 => ⟨p, r, _, _, _, _, rfl, rfl, e3 _ _ hp2, hr3, _, rfl, ?_⟩⟩⟩
    refine ifF (nd ⟨rfl, rfl⟩) ?_
    have hp3 := e3 _ _ hp2
    have hq3 := e3 _ _ hq
    -- apart
    refine ⟨_, rfl, p, _, _, _, rfl, rfl, SqT.of hp3, at1, _, rfl, p, _, _, _, rfl, rfl, SqT.of hp3, at0, _, _, rfl, rfl, _, rfl, _, rfl, _, _, rfl, rfl, mulx sb sn, _, _, rfl, rfl, _, rfl, ?_⟩
    refine ifF (nd (by unfold Th.B; omega)) ?_
    -- rising
    have u1 := Th.A_step hb hn
    have u2 := Th.B_mono hb hn (show n < n + 1 by omega)
    refine ⟨_, rfl, p, _, _, _, rfl, rfl, SqT.of hp3, at0, _, rfl, q, _, _, _, rfl, rfl, SqT.of hq3, at0, _, _, rfl, rfl, _, rfl, ifF (nd u1) ⟨_, rfl, p, _, _, _, rfl, rfl, SqT.of hp3, at1, _, rfl, q, _, _, _, rfl, rfl, SqT.of hq3, at1, _, _, rfl, rfl, _, rfl, ?_⟩⟩
    refine ifF (nd u2) ?_
    have e03 : Evl.Ex H H3 := e1.trans (e2.trans e3)
    -- pair 0
    refine ⟨_, rfl, _, _, rfl, rfl, _, rfl, ?_⟩
    refine if2 (fun c => ?_) (fun c => ?_)
    · have c' : n = 0 := of_decide_eq_true c
      refine ⟨_, rfl, (by show 2 ≤ sizeLine; decide), fun z hz => ⟨p, z, _, _, 0, 0, rfl, rfl, ex_new hz _ _ hp3, upd_same, ?_⟩⟩
      have a0 : Th.A b n = 0 := by rw [c']; exact Th.A_zero
      have b0 : Th.B b n = 0 := by unfold Th.B; rw [a0, c']; simp
      exact bt (Q := Q) (decide_eq_true ⟨a0, b0⟩) (k _ (e03.trans (ex_new hz)))
    · have c' : ¬ n = 0 := of_decide_eq_false c
      have n1 : 1 ≤ n := by omega
      have pA := Th.A_pos hb n1
      have pB := Th.B_gt hb n1
      have sA : Sm 2900 (Th.A b n) := sm_mono (sm_le (sm_mul (sm_lit (a := 3) (by decide)) sn) (by omega) lA) (by decide)
      have sB : Sm 2900 (Th.B b n) := sm_mono (sm_le (sm_mul (sm_add sb (sm_mono (sm_lit (a := 3) (by decide)) (by decide))) sn) gB lB) (by decide)
      -- either number's place
      refine ⟨_, rfl, p, rfl, ⟨_, SqT.of hp3⟩, for_tup (K := K) (a := p) (xs := [.int (Th.A b n), .int (Th.B b n)]) (fun i σ H' => Evl.Ex H3 H' ∧ ∃ v : Option V, σ = [some (.int b), some (.int n), some (.ref p), some (.ref q), v])
        ⟨Evl.Ex.refl _, none, rfl⟩ (fun i σ H' _ ⟨e, _⟩ => SqT.of (e _ _ hp3)) ?_ ?_⟩
      · rintro i y σ H' hi ⟨e4, v, rfl⟩
        obtain ⟨z, rfl, hz1, hz2, hz3⟩ : ∃ z : Int, y = .int z ∧ 1 ≤ z ∧ Sm 2900 z ∧ Th.pw b z = n := by
          match i, hi with
          | 0, hi => exact ⟨_, (Option.some.inj hi).symm, pA, sA, Th.pw_A hb n1⟩
          | 1, hi => exact ⟨_, (Option.some.inj hi).symm, by omega, sB, Th.pw_B hb n1⟩
        refine ⟨_, rfl, _, rfl, b, z, rfl, hb, hz1, sm_mono sb (by decide), hz2, fun H5 e5 => ⟨_, rfl, _, _, rfl, rfl, _, rfl, ?_⟩⟩
        refine ifF (nd hz3) ?_
        exact ⟨e4.trans e5, _, rfl⟩
      · rintro σ H' ⟨e4, v, rfl⟩
        obtain ⟨w1, w2, w3⟩ := Th.pw_spec hb n1
        have sw : Sm 3000 (Th.pw b n) := sm_mono (sm_le sn (by omega) w2) (by decide)
        refine ⟨_, rfl, _, rfl, _, rfl, _, rfl, b, n, rfl, hb, n1, sm_mono sb (by decide), sm_mono sn (by decide), fun H5 e5 => ⟨b, _, rfl, hb, (by omega), sm_mono sb (by decide), sw, fun r H6 e6 hr6 => ⟨r, _, rfl, .inr (SqT.of hr6), rfl, rfl, ?_⟩⟩⟩
        have dd : inV (.int n) [.int (Th.A b (Th.pw b n)), .int (Th.B b (Th.pw b n))] = true := by
          rw [in_two]
          exact decide_eq_true (w3.imp (fun h => h.symm) (fun h => h.symm))
        exact bt (Q := Q) dd (k _ (((e03.trans e4).trans e5).trans e6))
-- law: slots 0 script, 1 k, 2 bound_here, 3 cell, 4 number_here, 5 some, 6 at
abbrev s_law : Stmt := top 26
theorem sc_law : FnScope ["_law_script", "_law_k", "_law_bound_here", "_law_cell", "_law_number_here", "_law_some", "_law_at"] ["_law_script"] (defScope s_law) := ⟨rfl, rfl, rfl, by decide +kernel, rfl, by decide +kernel, by decide +kernel⟩
def sp_law (K : PySem.W.Frag) (cs : Cs) : Sp := fun vs H Q E => ∃ (a : Addr) (ns : List Int), vs = [.ref a] ∧ SqL K H a (ns.map V.int) ∧ CellsSm ns ∧ ns.length ≤ 63 ∧ ∀ H', Q (.bl true) H'
theorem ok_law {f : Addr} {fd : FuncData} (F : L2.Fun K "law" "law" s_law f fd) (T : Txt K mg cs)
    (c__law_cell_at : C8.Cal P w K mg base 1 "_law_cell_at" (sp__law_cell_at K cs) [])
    (c__law_draw : C8.Cal P w K mg base 1 "_law_draw" (sp__law_draw K cs) [])
    (c__law_whole : C8.Cal P w K mg base 1 "_law_whole" (sp__law_whole K cs) [])
    (c__law_number : C8.Cal P w K mg base 2 "_law_number" (sp__law_number K cs) [])
    (c__law_pair : C8.Cal P w K mg base 2 "_law_pair" (sp__law_pair K cs) [])
    (c__law_bound : C8.Cal P w K mg base 3 "_law_bound" (sp__law_bound K cs) [])
    (c_pair_by : C8.Cal P w K mg base 4 "pair_by" (sp_pair_by K cs) [])
    (c_pair_with : C8.Cal P w K mg base 5 "pair_with" (sp_pair_with K cs) [])
    (c__law_first_right : C8.Cal P w K mg base 5 "_law_first_right" (sp__law_first_right K cs) [])
    (c__law_right : C8.Cal P w K mg base 6 "_law_right" (sp__law_right K cs) []) : FnOk P w K mg base CX0 7 f fd ["_law_script"] (sp_law K cs) := by
  refine F.ok sc_law (fun vs H Q E h => ?_) (fun cdv A outer s H vs Q E hr h => ?_)
  · obtain ⟨_, _, rfl, _⟩ := h
    rfl
  · obtain ⟨a, ns, rfl, hs, hz, hl, k⟩ := h
    refine ⟨_, (pss_cons (ps_set (i := 0) sc_law.nd rfl (Or.inl rfl) (pe_slice sl_list (pv 0) po_none (po_some pe_int))) (pss_cons (ps_for PassesOwn.never rfl (pi_range3 (by rfl) T.n_range (pa_cons pe_int (pa_cons (pe_callB call_len_seq (by rfl) T.n_len (by decide +kernel) (pa_cons (pv 0) pa_nil)) (pa_cons (pe_op op_add pe_int (pe_op op_fdivW (pe_callB call_len_seq (by rfl) T.n_len (by decide +kernel) (pa_cons (pv 0) pa_nil)) pe_int)) pa_nil)))) (pg_name (i := 1) sc_law.nd rfl (Or.inl rfl)) (pss_cons (ps_par (i := 2) (j := 3) (by rfl) sc_law.nd rfl rfl (by decide) rfl rfl (pa_cons (C8.pe_c c__law_bound hr (by decide) (by rfl) (pa_cons (pv 0) (pa_cons (pv 1) pa_nil))) (pa_cons (C8.pe_c c__law_cell_at hr (by decide) (by rfl) (pa_cons (pv 0) (pa_cons (pv 1) pa_nil))) pa_nil)) (by rfl)) (pss_cons (ps_set (i := 4) sc_law.nd rfl (Or.inl rfl) (C8.pe_c c__law_number hr (by decide) (by rfl) (pa_cons (pv 3) (pa_cons (pv 1) (pa_cons (pe_ix ix_tup (pe_tup (pa_cons pe_int (pa_cons pe_int pa_nil))) (C8.pe_c c__law_draw hr (by decide) (by rfl) (pa_cons (pe_op op_mod (pv 3) (pe_op op_pow pe_int pe_int)) (pa_cons pe_int (pa_cons pe_int pa_nil)))) (fun _ _ => rfl)) pa_nil))))) (pss_one (ps_for PassesOwn.never rfl (pi_tup (pe_tup (pa_cons (pv 4) (pa_cons (pe_op op_add (pv 4) pe_int) (pa_cons (pe_callB (call_max2 rfl) (by rfl) T.n_max (by decide +kernel) (pa_cons pe_int (pa_cons (pe_op op_sub (pv 4) pe_int) pa_nil))) pa_nil))))) (pg_name (i := 5) sc_law.nd rfl (Or.inl rfl)) (pss_cons (ps_if (pt_not (pt_val (C8.pe_c c__law_right hr (by decide) (by rfl) (pa_cons (pv 2) (pa_cons (pv 5) pa_nil))))) (pss_one (ps_ret pe_bl)) pss_nil) (pss_cons (ps_set (i := 6) sc_law.nd rfl (Or.inl rfl) (C8.pe_c c_pair_with hr (by decide) (by rfl) (pa_cons (pv 2) (pa_cons (pe_op op_add (pv 5) pe_int) pa_nil)))) (pss_one (ps_if (PW.pt (pw_or (pt_not (pt_val (C8.pe_c c__law_whole hr (by decide) (by rfl) (pa_cons (pv 6) pa_nil)))) (pw_or1 (pt_cmpR op_notIn_seq (pe_op op_add (pv 5) pe_int) (C8.pe_c c__law_pair hr (by decide) (by rfl) (pa_cons (pv 2) (pa_cons (pv 6) pa_nil))) (by rfl))))) (pss_one (ps_ret pe_bl)) pss_nil))))))))) (pss_cons (ps_for PassesOwn.never rfl (pi_tup (pe_tup (pa_cons pe_int (pa_cons pe_int (pa_cons (C8.pe_c c__law_bound hr (by decide) (by rfl) (pa_cons (pv 0) (pa_cons pe_int pa_nil))) pa_nil))))) (pg_name (i := 2) sc_law.nd rfl (Or.inl rfl)) (pss_one (ps_if (pt_not (pt_val (C8.pe_c c__law_first_right hr (by decide) (by rfl) (pa_cons (pv 2) pa_nil)))) (pss_one (ps_ret pe_bl)) pss_nil))) (pss_one (ps_ret (pe_and (pe_cmpR (op_eqP hr.units) (C8.pe_c c_pair_by hr (by decide) (by rfl) (pa_cons pe_int (pa_cons pe_int pa_nil))) (pe_tup (pa_cons pe_int (pa_cons pe_int pa_nil))) (nomark _)) (pe_and (pe_cmpR (op_eqP hr.units) (C8.pe_c c_pair_by hr (by decide) (by rfl) (pa_cons pe_int (pa_cons pe_int pa_nil))) (pe_tup (pa_cons pe_int (pa_cons pe_int pa_nil))) (nomark _)) (pe_and (pe_cmp (pc_eqI (C8.pe_c c_pair_with hr (by decide) (by rfl) (pa_cons pe_int (pa_cons pe_int pa_nil))) pe_int)) (pe_one (pe_cmpR (op_eqP hr.units) (C8.pe_c c_pair_by hr (by decide) (by rfl) (pa_cons pe_int (pa_cons pe_int pa_nil))) (pe_tup (pa_cons pe_int (pa_cons pe_int pa_nil))) (nomark _))))))))))), ?_⟩
    refine ⟨_, rfl, _, rfl, a, _, rfl, hs, fun p hp => ?_⟩
    rw [cut63 hl]
    have hs1 : SqL K (upd H p (.lst (ns.map V.int))) p (ns.map V.int) := SqL.of upd_same
    generalize upd H p (.lst (ns.map V.int)) = H1 at hs1
    obtain ⟨cn, hcn, hrg⟩ := rg_of (d := 6) hl (by decide) (rg_all ⟨ns.length, by omega⟩).2.1
    obtain ⟨st1, st2⟩ := step_le (d := 6) hl (by decide)
    have hlen : (ns.map V.int).length = ns.length := List.length_map ..
    refine ⟨_, rfl, p, _, rfl, .inl hs1, _, rfl, p, _, rfl, .inl hs1, _, _, rfl, rfl, divw (b := 3) (by decide) (sm_lit (by decide)), _, _, rfl, rfl, 0, _, _, cn, rfl, (by rw [hlen]; exact hrg), ?_⟩
    rw [hlen]
    refine for_rangeC (lo := 0) (n := cn) (fun i σ H' => Evl.Ex H1 H' ∧ ∃ v1 v2 v3 v4 v5 v6 : Option V, σ = [some (.ref p), v1, v2, v3, v4, v5, v6]) ⟨Evl.Ex.refl _, none, none, none, none, none, none, rfl⟩ ?_ ?_
    · rintro i σ H2 hi ⟨e2, v1, v2, v3, v4, v5, v6, rfl⟩
      obtain ⟨j0, j1⟩ := place_le hi hcn st1 st2
      generalize 0 + (i : Int) * (1 + (ns.length : Int) / ((6 : Nat) : Int)) = j at j0 j1
      have hs2 := Evl.ex_l e2 hs1
      refine ⟨_, rfl, _, rfl, p, ns, j, rfl, hs2, hz, j0, (by omega), fun b H3 e3 b1 b2 => ?_⟩
      have hs3 := Evl.ex_l e3 hs2
      refine ⟨_, rfl, _, rfl, p, ns, j, rfl, hs3, j0, _, _, rfl, ?_⟩
      have sc := sm_cell hz j.toNat
      generalize ns.getD j.toNat 0 = c at sc
      refine ⟨_, rfl, _, rfl, (by show 2 ≤ sizeLine; decide), fun q hq => ?_⟩
      refine ⟨_, rfl, _, _, rfl, rfl, pow_ok (by decide) (by decide), _, _, rfl, rfl, p18_pos, _, 4, 2, rfl, sm_mono (sm_mod18 c) (by decide), sm_lit (by decide), (by decide), (by decide), fun r H4 e4 r0 r1 => ?_⟩
      obtain ⟨v, hv, hmem⟩ := at_in (xs := [.int 30, .int 900000]) r0 (by show r < 2; exact r1)
      obtain ⟨m, rfl, m0, m1⟩ : ∃ m : Int, v = .int m ∧ 0 < m ∧ m ≤ 900000 := by
        simp only [List.mem_cons, List.not_mem_nil, or_false] at hmem
        rcases hmem with h | h
        · exact ⟨_, h, by decide, by decide⟩
        · exact ⟨_, h, by decide, by decide⟩
      refine ⟨q, _, _, _, rfl, rfl, SqT.of (e4 _ _ upd_same), hv, c, j, m, rfl, sc, j0, (by omega), m0, m1, fun n H5 e5 n0 n1 => ?_⟩
      have e35 : Evl.Ex H3 H5 := (ex_new hq).trans (e4.trans e5)
      refine ⟨_, rfl, _, rfl, _, _, rfl, rfl, _, rfl, _, _, rfl, rfl, _, _, rfl, (by show 3 ≤ sizeLine; decide), fun q6 hq6 => ?_⟩
      refine ⟨q6, rfl, ⟨_, SqT.of upd_same⟩, ?_⟩
      have e6 : Evl.Ex H5 (upd H5 q6 (.tup [.int n, .int (n + 1), .int (if n - 1 > 0 then n - 1 else 0)])) := ex_new hq6
      have hq6' : upd H5 q6 (.tup [.int n, .int (n + 1), .int (if n - 1 > 0 then n - 1 else 0)]) q6 = some (.tup [.int n, .int (n + 1), .int (if n - 1 > 0 then n - 1 else 0)]) := upd_same
      generalize upd H5 q6 (.tup [.int n, .int (n + 1), .int (if n - 1 > 0 then n - 1 else 0)]) = H6 at e6 hq6'
      refine for_tup (K := K) (a := q6) (xs := [.int n, .int (n + 1), .int (if n - 1 > 0 then n - 1 else 0)]) (fun i σ H' => Evl.Ex H6 H' ∧ ∃ w5 w6 : Option V, σ = [some (.ref p), some (.int j), some (.int b), some (.int c), some (.int n), w5, w6])
        ⟨Evl.Ex.refl _, v5, v6, rfl⟩ (fun i σ H' _ ⟨e, _⟩ => SqT.of (e _ _ hq6')) ?_ ?_
      · rintro i y σ H7 hi ⟨e7, w5, w6, rfl⟩
        obtain ⟨z, rfl, z0, z1⟩ : ∃ z : Int, y = .int z ∧ 0 ≤ z ∧ z ≤ M40 := by
          match i, hi with
          | 0, hi => exact ⟨_, (Option.some.inj hi).symm, by omega, by unfold M40 at *; omega⟩
          | 1, hi => exact ⟨_, (Option.some.inj hi).symm, by omega, by unfold M40 at *; omega⟩
          | 2, hi =>
            refine ⟨_, (Option.some.inj hi).symm, ?_, ?_⟩
            · split <;> omega
            · unfold M40 at *
              split <;> omega
        have sb : Sm 134 b := sm_m40 (by omega) b2
        have sz : Sm 134 z := sm_m40 z0 z1
        have sz1 : Sm 135 (z + 1) := sm_add sz (sm_mono (sm_lit (a := 1) (by decide)) (by decide))
        refine ⟨_, rfl, _, rfl, b, z, rfl, b1, b2, z0, z1, fun H8 e8 => ⟨true, rfl, ifF rfl ?_⟩⟩
        refine ⟨_, rfl, _, rfl, _, _, rfl, rfl, b, z + 1, rfl, b1, (by omega), sm_mono sb (by decide), sm_mono sz1 (by decide), fun H9 e9 => ?_⟩
        obtain ⟨w1, w2, w3⟩ := Th.pw_spec b1 (show 1 ≤ z + 1 by omega)
        generalize Th.pw b (z + 1) = g at w1 w2 w3
        refine ⟨_, rfl, g, rfl, true, rfl, iteF ⟨_, rfl, _, _, rfl, rfl, _, rfl, _, rfl, b, g, rfl, sm_mono sb (by decide), sm_mono (sm_le sz1 (by omega) w2) (by decide), fun r H10 e10 hr => ⟨r, _, rfl, .inr (SqT.of hr), rfl, rfl, _, rfl, ?_⟩⟩⟩
        refine ifF (by show (!inV (.int (z + 1)) [.int (Th.A b g), .int (Th.B b g)]) = false; rw [in_two]; exact nd (w3.imp (fun h => h.symm) (fun h => h.symm))) ?_
        exact ⟨e7.trans (e8.trans (e9.trans e10)), _, _, rfl⟩
      · rintro σ H7 ⟨e7, w5, w6, rfl⟩
        exact ⟨e2.trans (e3.trans (e35.trans (e6.trans e7))), _, _, _, _, _, _, rfl⟩
    · rintro σ H2 ⟨e2, v1, v2, v3, v4, v5, v6, rfl⟩
      have hs2 := Evl.ex_l e2 hs1
      refine ⟨_, rfl, p, ns, 0, rfl, hs2, hz, (by decide), (by decide), fun b H3 e3 b1 b2 => ⟨(by show 3 ≤ sizeLine; decide), fun q hq => ?_⟩⟩
      refine ⟨q, rfl, ⟨_, SqT.of upd_same⟩, for_tup (K := K) (a := q) (xs := [.int 1, .int 2, .int b]) (fun i σ H' => Evl.Ex (upd H3 q (.tup [.int 1, .int 2, .int b])) H' ∧ ∃ v1 v2 v3 v4 v5 v6 : Option V, σ = [some (.ref p), v1, v2, v3, v4, v5, v6])
        ⟨Evl.Ex.refl _, v1, v2, v3, v4, v5, v6, rfl⟩ (fun i σ H' _ ⟨e, _⟩ => SqT.of (e _ _ upd_same)) ?_ ?_⟩
      · rintro i y σ H4 hi ⟨e4, v1, v2, v3, v4, v5, v6, rfl⟩
        obtain ⟨z, rfl, z0, z1⟩ : ∃ z : Int, y = .int z ∧ 1 ≤ z ∧ z ≤ M40 := by
          match i, hi with
          | 0, hi => exact ⟨_, (Option.some.inj hi).symm, by decide, by decide⟩
          | 1, hi => exact ⟨_, (Option.some.inj hi).symm, by decide, by decide⟩
          | 2, hi => exact ⟨_, (Option.some.inj hi).symm, b1, b2⟩
        refine ⟨_, rfl, z, rfl, z0, z1, fun H5 e5 => ⟨true, rfl, ifF rfl ?_⟩⟩
        exact ⟨e4.trans e5, _, _, _, _, _, _, rfl⟩
      · rintro σ H4 ⟨e4, v1, v2, v3, v4, v5, v6, rfl⟩
        refine ⟨1, 2, rfl, (by decide), (by decide), sm_lit (by decide), sm_lit (by decide), fun p1 H5 e5 hp1 => ⟨(by show 2 ≤ sizeLine; decide), fun q1 hq1 => ⟨p1, q1, _, _, _, _, rfl, rfl, ex_new hq1 _ _ hp1, upd_same, _, rfl, ifT (decide_eq_true (by decide +kernel)) ?_⟩⟩⟩
        refine ⟨2, 3, rfl, (by decide), (by decide), sm_lit (by decide), sm_lit (by decide), fun p2 H6 e6 hp2 => ⟨(by show 2 ≤ sizeLine; decide), fun q2 hq2 => ⟨p2, q2, _, _, _, _, rfl, rfl, ex_new hq2 _ _ hp2, upd_same, _, rfl, ifT (decide_eq_true (by decide +kernel)) ?_⟩⟩⟩
        refine ⟨1, 4, rfl, (by decide), (by decide), sm_lit (by decide), sm_lit (by decide), fun H7 e7 => ⟨_, _, rfl, rfl, _, rfl, ifT (decide_eq_true (by decide +kernel)) ?_⟩⟩
        refine ⟨9, 0, rfl, (by decide), (by decide), sm_lit (by decide), sm_lit (by decide), fun p3 H8 e8 hp3 => ⟨(by show 2 ≤ sizeLine; decide), fun q3 hq3 => ⟨p3, q3, _, _, _, _, rfl, rfl, ex_new hq3 _ _ hp3, upd_same, ?_⟩⟩⟩
        exact bt (Q := Q) (decide_eq_true (by decide +kernel)) (k _)
end
theorem all_mk {P : Program} {w : World} {K : PySem.W.Frag} {h : Heap} {mg : Str → Option Value} {fa : Addr} (X : K.In h) (G : h.Ns mainGlobals mg) (hfa : mg "law" = some (.ref fa))
    {f_is_whole : Addr} {od_is_whole an_is_whole : Option Addr} {sl_is_whole : Array (Option Value)} {oc_is_whole kV_is_whole dc_is_whole pm_is_whole cd_is_whole ct_is_whole : Value}
    {f__times_root : Addr} {od__times_root an__times_root : Option Addr} {sl__times_root : Array (Option Value)} {oc__times_root kV__times_root dc__times_root pm__times_root cd__times_root ct__times_root : Value}
    {f__law_cell_at : Addr} {od__law_cell_at an__law_cell_at : Option Addr} {sl__law_cell_at : Array (Option Value)} {oc__law_cell_at kV__law_cell_at dc__law_cell_at pm__law_cell_at cd__law_cell_at ct__law_cell_at : Value}
    {f__law_draw : Addr} {od__law_draw an__law_draw : Option Addr} {sl__law_draw : Array (Option Value)} {oc__law_draw kV__law_draw dc__law_draw pm__law_draw cd__law_draw ct__law_draw : Value}
    {f__law_root : Addr} {od__law_root an__law_root : Option Addr} {sl__law_root : Array (Option Value)} {oc__law_root kV__law_root dc__law_root pm__law_root cd__law_root ct__law_root : Value}
    {f__law_whole : Addr} {od__law_whole an__law_whole : Option Addr} {sl__law_whole : Array (Option Value)} {oc__law_whole kV__law_whole dc__law_whole pm__law_whole cd__law_whole ct__law_whole : Value}
    {f_is_bound : Addr} {od_is_bound an_is_bound : Option Addr} {sl_is_bound : Array (Option Value)} {oc_is_bound kV_is_bound dc_is_bound pm_is_bound cd_is_bound ct_is_bound : Value}
    {f_check_number : Addr} {od_check_number an_check_number : Option Addr} {sl_check_number : Array (Option Value)} {oc_check_number kV_check_number dc_check_number pm_check_number cd_check_number ct_check_number : Value}
    {f__lessers_below : Addr} {od__lessers_below an__lessers_below : Option Addr} {sl__lessers_below : Array (Option Value)} {oc__lessers_below kV__lessers_below dc__lessers_below pm__lessers_below cd__lessers_below ct__lessers_below : Value}
    {f__law_number : Addr} {od__law_number an__law_number : Option Addr} {sl__law_number : Array (Option Value)} {oc__law_number kV__law_number dc__law_number pm__law_number cd__law_number ct__law_number : Value}
    {f__law_pair : Addr} {od__law_pair an__law_pair : Option Addr} {sl__law_pair : Array (Option Value)} {oc__law_pair kV__law_pair dc__law_pair pm__law_pair cd__law_pair ct__law_pair : Value}
    {f__law_is_pair : Addr} {od__law_is_pair an__law_is_pair : Option Addr} {sl__law_is_pair : Array (Option Value)} {oc__law_is_pair kV__law_is_pair dc__law_is_pair pm__law_is_pair cd__law_is_pair ct__law_is_pair : Value}
    {f_check_bound : Addr} {od_check_bound an_check_bound : Option Addr} {sl_check_bound : Array (Option Value)} {oc_check_bound kV_check_bound dc_check_bound pm_check_bound cd_check_bound ct_check_bound : Value}
    {f__law_bound : Addr} {od__law_bound an__law_bound : Option Addr} {sl__law_bound : Array (Option Value)} {oc__law_bound kV__law_bound dc__law_bound pm__law_bound cd__law_bound ct__law_bound : Value}
    {f_pair_by : Addr} {od_pair_by an_pair_by : Option Addr} {sl_pair_by : Array (Option Value)} {oc_pair_by kV_pair_by dc_pair_by pm_pair_by cd_pair_by ct_pair_by : Value}
    {f_pair_with : Addr} {od_pair_with an_pair_with : Option Addr} {sl_pair_with : Array (Option Value)} {oc_pair_with kV_pair_with dc_pair_with pm_pair_with cd_pair_with ct_pair_with : Value}
    {f__law_first_right : Addr} {od__law_first_right an__law_first_right : Option Addr} {sl__law_first_right : Array (Option Value)} {oc__law_first_right kV__law_first_right dc__law_first_right pm__law_first_right cd__law_first_right ct__law_first_right : Value}
    {f__law_right : Addr} {od__law_right an__law_right : Option Addr} {sl__law_right : Array (Option Value)} {oc__law_right kV__law_right dc__law_right pm__law_right cd__law_right ct__law_right : Value}
    {f_law : Addr} {od_law an_law : Option Addr} {sl_law : Array (Option Value)} {oc_law kV_law dc_law pm_law cd_law ct_law : Value}
    (a_is_whole : PySem.W.nsIn K mainGlobals "is_whole" = some (some (.ref f_is_whole)))
    (l_is_whole : K.lookup f_is_whole = some ⟨oc_is_whole, od_is_whole, .func (PySem.W.fnOf "is_whole" "is_whole" (L2.defArgs s_is_whole) (L2.defBody s_is_whole) (L2.defScope s_is_whole) .none kV_is_whole dc_is_whole pm_is_whole an_is_whole cd_is_whole ct_is_whole), sl_is_whole⟩)
    (c_is_whole : PySem.W.codeIn K cd_is_whole "is_whole" = true)
    (k_is_whole : PySem.W.keepIn K (.ref f_is_whole) = true)
    (a__times_root : PySem.W.nsIn K mainGlobals "_times_root" = some (some (.ref f__times_root)))
    (l__times_root : K.lookup f__times_root = some ⟨oc__times_root, od__times_root, .func (PySem.W.fnOf "_times_root" "_times_root" (L2.defArgs s__times_root) (L2.defBody s__times_root) (L2.defScope s__times_root) .none kV__times_root dc__times_root pm__times_root an__times_root cd__times_root ct__times_root), sl__times_root⟩)
    (c__times_root : PySem.W.codeIn K cd__times_root "_times_root" = true)
    (k__times_root : PySem.W.keepIn K (.ref f__times_root) = true)
    (a__law_cell_at : PySem.W.nsIn K mainGlobals "_law_cell_at" = some (some (.ref f__law_cell_at)))
    (l__law_cell_at : K.lookup f__law_cell_at = some ⟨oc__law_cell_at, od__law_cell_at, .func (PySem.W.fnOf "_law_cell_at" "_law_cell_at" (L2.defArgs s__law_cell_at) (L2.defBody s__law_cell_at) (L2.defScope s__law_cell_at) .none kV__law_cell_at dc__law_cell_at pm__law_cell_at an__law_cell_at cd__law_cell_at ct__law_cell_at), sl__law_cell_at⟩)
    (c__law_cell_at : PySem.W.codeIn K cd__law_cell_at "_law_cell_at" = true)
    (k__law_cell_at : PySem.W.keepIn K (.ref f__law_cell_at) = true)
    (a__law_draw : PySem.W.nsIn K mainGlobals "_law_draw" = some (some (.ref f__law_draw)))
    (l__law_draw : K.lookup f__law_draw = some ⟨oc__law_draw, od__law_draw, .func (PySem.W.fnOf "_law_draw" "_law_draw" (L2.defArgs s__law_draw) (L2.defBody s__law_draw) (L2.defScope s__law_draw) .none kV__law_draw dc__law_draw pm__law_draw an__law_draw cd__law_draw ct__law_draw), sl__law_draw⟩)
    (c__law_draw : PySem.W.codeIn K cd__law_draw "_law_draw" = true)
    (k__law_draw : PySem.W.keepIn K (.ref f__law_draw) = true)
    (a__law_root : PySem.W.nsIn K mainGlobals "_law_root" = some (some (.ref f__law_root)))
    (l__law_root : K.lookup f__law_root = some ⟨oc__law_root, od__law_root, .func (PySem.W.fnOf "_law_root" "_law_root" (L2.defArgs s__law_root) (L2.defBody s__law_root) (L2.defScope s__law_root) .none kV__law_root dc__law_root pm__law_root an__law_root cd__law_root ct__law_root), sl__law_root⟩)
    (c__law_root : PySem.W.codeIn K cd__law_root "_law_root" = true)
    (k__law_root : PySem.W.keepIn K (.ref f__law_root) = true)
    (a__law_whole : PySem.W.nsIn K mainGlobals "_law_whole" = some (some (.ref f__law_whole)))
    (l__law_whole : K.lookup f__law_whole = some ⟨oc__law_whole, od__law_whole, .func (PySem.W.fnOf "_law_whole" "_law_whole" (L2.defArgs s__law_whole) (L2.defBody s__law_whole) (L2.defScope s__law_whole) .none kV__law_whole dc__law_whole pm__law_whole an__law_whole cd__law_whole ct__law_whole), sl__law_whole⟩)
    (c__law_whole : PySem.W.codeIn K cd__law_whole "_law_whole" = true)
    (k__law_whole : PySem.W.keepIn K (.ref f__law_whole) = true)
    (a_is_bound : PySem.W.nsIn K mainGlobals "is_bound" = some (some (.ref f_is_bound)))
    (l_is_bound : K.lookup f_is_bound = some ⟨oc_is_bound, od_is_bound, .func (PySem.W.fnOf "is_bound" "is_bound" (L2.defArgs s_is_bound) (L2.defBody s_is_bound) (L2.defScope s_is_bound) .none kV_is_bound dc_is_bound pm_is_bound an_is_bound cd_is_bound ct_is_bound), sl_is_bound⟩)
    (c_is_bound : PySem.W.codeIn K cd_is_bound "is_bound" = true)
    (k_is_bound : PySem.W.keepIn K (.ref f_is_bound) = true)
    (a_check_number : PySem.W.nsIn K mainGlobals "check_number" = some (some (.ref f_check_number)))
    (l_check_number : K.lookup f_check_number = some ⟨oc_check_number, od_check_number, .func (PySem.W.fnOf "check_number" "check_number" (L2.defArgs s_check_number) (L2.defBody s_check_number) (L2.defScope s_check_number) .none kV_check_number dc_check_number pm_check_number an_check_number cd_check_number ct_check_number), sl_check_number⟩)
    (c_check_number : PySem.W.codeIn K cd_check_number "check_number" = true)
    (k_check_number : PySem.W.keepIn K (.ref f_check_number) = true)
    (a__lessers_below : PySem.W.nsIn K mainGlobals "_lessers_below" = some (some (.ref f__lessers_below)))
    (l__lessers_below : K.lookup f__lessers_below = some ⟨oc__lessers_below, od__lessers_below, .func (PySem.W.fnOf "_lessers_below" "_lessers_below" (L2.defArgs s__lessers_below) (L2.defBody s__lessers_below) (L2.defScope s__lessers_below) .none kV__lessers_below dc__lessers_below pm__lessers_below an__lessers_below cd__lessers_below ct__lessers_below), sl__lessers_below⟩)
    (c__lessers_below : PySem.W.codeIn K cd__lessers_below "_lessers_below" = true)
    (k__lessers_below : PySem.W.keepIn K (.ref f__lessers_below) = true)
    (a__law_number : PySem.W.nsIn K mainGlobals "_law_number" = some (some (.ref f__law_number)))
    (l__law_number : K.lookup f__law_number = some ⟨oc__law_number, od__law_number, .func (PySem.W.fnOf "_law_number" "_law_number" (L2.defArgs s__law_number) (L2.defBody s__law_number) (L2.defScope s__law_number) .none kV__law_number dc__law_number pm__law_number an__law_number cd__law_number ct__law_number), sl__law_number⟩)
    (c__law_number : PySem.W.codeIn K cd__law_number "_law_number" = true)
    (k__law_number : PySem.W.keepIn K (.ref f__law_number) = true)
    (a__law_pair : PySem.W.nsIn K mainGlobals "_law_pair" = some (some (.ref f__law_pair)))
    (l__law_pair : K.lookup f__law_pair = some ⟨oc__law_pair, od__law_pair, .func (PySem.W.fnOf "_law_pair" "_law_pair" (L2.defArgs s__law_pair) (L2.defBody s__law_pair) (L2.defScope s__law_pair) .none kV__law_pair dc__law_pair pm__law_pair an__law_pair cd__law_pair ct__law_pair), sl__law_pair⟩)
    (c__law_pair : PySem.W.codeIn K cd__law_pair "_law_pair" = true)
    (k__law_pair : PySem.W.keepIn K (.ref f__law_pair) = true)
    (a__law_is_pair : PySem.W.nsIn K mainGlobals "_law_is_pair" = some (some (.ref f__law_is_pair)))
    (l__law_is_pair : K.lookup f__law_is_pair = some ⟨oc__law_is_pair, od__law_is_pair, .func (PySem.W.fnOf "_law_is_pair" "_law_is_pair" (L2.defArgs s__law_is_pair) (L2.defBody s__law_is_pair) (L2.defScope s__law_is_pair) .none kV__law_is_pair dc__law_is_pair pm__law_is_pair an__law_is_pair cd__law_is_pair ct__law_is_pair), sl__law_is_pair⟩)
    (c__law_is_pair : PySem.W.codeIn K cd__law_is_pair "_law_is_pair" = true)
    (k__law_is_pair : PySem.W.keepIn K (.ref f__law_is_pair) = true)
    (a_check_bound : PySem.W.nsIn K mainGlobals "check_bound" = some (some (.ref f_check_bound)))
    (l_check_bound : K.lookup f_check_bound = some ⟨oc_check_bound, od_check_bound, .func (PySem.W.fnOf "check_bound" "check_bound" (L2.defArgs s_check_bound) (L2.defBody s_check_bound) (L2.defScope s_check_bound) .none kV_check_bound dc_check_bound pm_check_bound an_check_bound cd_check_bound ct_check_bound), sl_check_bound⟩)
    (c_check_bound : PySem.W.codeIn K cd_check_bound "check_bound" = true)
    (k_check_bound : PySem.W.keepIn K (.ref f_check_bound) = true)
    (a__law_bound : PySem.W.nsIn K mainGlobals "_law_bound" = some (some (.ref f__law_bound)))
    (l__law_bound : K.lookup f__law_bound = some ⟨oc__law_bound, od__law_bound, .func (PySem.W.fnOf "_law_bound" "_law_bound" (L2.defArgs s__law_bound) (L2.defBody s__law_bound) (L2.defScope s__law_bound) .none kV__law_bound dc__law_bound pm__law_bound an__law_bound cd__law_bound ct__law_bound), sl__law_bound⟩)
    (c__law_bound : PySem.W.codeIn K cd__law_bound "_law_bound" = true)
    (k__law_bound : PySem.W.keepIn K (.ref f__law_bound) = true)
    (a_pair_by : PySem.W.nsIn K mainGlobals "pair_by" = some (some (.ref f_pair_by)))
    (l_pair_by : K.lookup f_pair_by = some ⟨oc_pair_by, od_pair_by, .func (PySem.W.fnOf "pair_by" "pair_by" (L2.defArgs s_pair_by) (L2.defBody s_pair_by) (L2.defScope s_pair_by) .none kV_pair_by dc_pair_by pm_pair_by an_pair_by cd_pair_by ct_pair_by), sl_pair_by⟩)
    (c_pair_by : PySem.W.codeIn K cd_pair_by "pair_by" = true)
    (k_pair_by : PySem.W.keepIn K (.ref f_pair_by) = true)
    (a_pair_with : PySem.W.nsIn K mainGlobals "pair_with" = some (some (.ref f_pair_with)))
    (l_pair_with : K.lookup f_pair_with = some ⟨oc_pair_with, od_pair_with, .func (PySem.W.fnOf "pair_with" "pair_with" (L2.defArgs s_pair_with) (L2.defBody s_pair_with) (L2.defScope s_pair_with) .none kV_pair_with dc_pair_with pm_pair_with an_pair_with cd_pair_with ct_pair_with), sl_pair_with⟩)
    (c_pair_with : PySem.W.codeIn K cd_pair_with "pair_with" = true)
    (k_pair_with : PySem.W.keepIn K (.ref f_pair_with) = true)
    (a__law_first_right : PySem.W.nsIn K mainGlobals "_law_first_right" = some (some (.ref f__law_first_right)))
    (l__law_first_right : K.lookup f__law_first_right = some ⟨oc__law_first_right, od__law_first_right, .func (PySem.W.fnOf "_law_first_right" "_law_first_right" (L2.defArgs s__law_first_right) (L2.defBody s__law_first_right) (L2.defScope s__law_first_right) .none kV__law_first_right dc__law_first_right pm__law_first_right an__law_first_right cd__law_first_right ct__law_first_right), sl__law_first_right⟩)
    (c__law_first_right : PySem.W.codeIn K cd__law_first_right "_law_first_right" = true)
    (k__law_first_right : PySem.W.keepIn K (.ref f__law_first_right) = true)
    (a__law_right : PySem.W.nsIn K mainGlobals "_law_right" = some (some (.ref f__law_right)))
    (l__law_right : K.lookup f__law_right = some ⟨oc__law_right, od__law_right, .func (PySem.W.fnOf "_law_right" "_law_right" (L2.defArgs s__law_right) (L2.defBody s__law_right) (L2.defScope s__law_right) .none kV__law_right dc__law_right pm__law_right an__law_right cd__law_right ct__law_right), sl__law_right⟩)
    (c__law_right : PySem.W.codeIn K cd__law_right "_law_right" = true)
    (k__law_right : PySem.W.keepIn K (.ref f__law_right) = true)
    (a_law : PySem.W.nsIn K mainGlobals "law" = some (some (.ref f_law)))
    (l_law : K.lookup f_law = some ⟨oc_law, od_law, .func (PySem.W.fnOf "law" "law" (L2.defArgs s_law) (L2.defBody s_law) (L2.defScope s_law) .none kV_law dc_law pm_law an_law cd_law ct_law), sl_law⟩)
    (c_law : PySem.W.codeIn K cd_law "law" = true)
    (k_law : PySem.W.keepIn K (.ref f_law) = true)
    (z_bool : PySem.W.nsIn K mainGlobals "bool" = some none)
    (z_int : PySem.W.nsIn K mainGlobals "int" = some none)
    (z_isinstance : PySem.W.nsIn K mainGlobals "isinstance" = some none)
    (z_isqrt : PySem.W.nsIn K mainGlobals "isqrt" = some (some (.builtin "math.isqrt")))
    (z_len : PySem.W.nsIn K mainGlobals "len" = some none)
    (z_max : PySem.W.nsIn K mainGlobals "max" = some none)
    (z_range : PySem.W.nsIn K mainGlobals "range" = some none)
    (z_tuple : PySem.W.nsIn K mainGlobals "tuple" = some none)
    : ∃ fd : FuncData, (∀ (s : Shared) (u : Value), BindsTo s fd ⟨[u], []⟩ [("_law_script", u)]) ∧ ∀ base : Heap, K.In base → base.Ns mainGlobals mg → FnOk P w K mg base CX0 7 fa fd ["_law_script"] (sp_law K cs0) := by
  have e := hfa.symm.trans (PySem.W.mg_of X G a_law)
  cases e
  have T : Txt K mg cs0 := { isqrt := PySem.W.mg_of X G z_isqrt, n_bool := PySem.W.mg_none_of X G z_bool, n_int := PySem.W.mg_none_of X G z_int, n_isinstance := PySem.W.mg_none_of X G z_isinstance, n_len := PySem.W.mg_none_of X G z_len, n_max := PySem.W.mg_none_of X G z_max, n_range := PySem.W.mg_none_of X G z_range, n_tuple := PySem.W.mg_none_of X G z_tuple }
  have F_is_whole := L2.fun_mk (st := s_is_whole) l_is_whole c_is_whole k_is_whole
  have b_is_whole := F_is_whole.binds (ps := ["value"]) fun _ _ _ _ _ _ us hl => match us, hl with | [_], _ => rfl
  have F__times_root := L2.fun_mk (st := s__times_root) l__times_root c__times_root k__times_root
  have b__times_root := F__times_root.binds (ps := ["bound", "number"]) fun _ _ _ _ _ _ us hl => match us, hl with | [_, _], _ => rfl
  have F__law_cell_at := L2.fun_mk (st := s__law_cell_at) l__law_cell_at c__law_cell_at k__law_cell_at
  have b__law_cell_at := F__law_cell_at.binds (ps := ["_law_script", "_law_k"]) fun _ _ _ _ _ _ us hl => match us, hl with | [_, _], _ => rfl
  have F__law_draw := L2.fun_mk (st := s__law_draw) l__law_draw c__law_draw k__law_draw
  have b__law_draw := F__law_draw.binds (ps := ["_law_cell", "_law_k", "_law_many"]) fun _ _ _ _ _ _ us hl => match us, hl with | [_, _, _], _ => rfl
  have F__law_root := L2.fun_mk (st := s__law_root) l__law_root c__law_root k__law_root
  have b__law_root := F__law_root.binds (ps := ["_law_number_here"]) fun _ _ _ _ _ _ us hl => match us, hl with | [_], _ => rfl
  have F__law_whole := L2.fun_mk (st := s__law_whole) l__law_whole c__law_whole k__law_whole
  have b__law_whole := F__law_whole.binds (ps := ["_law_number_here"]) fun _ _ _ _ _ _ us hl => match us, hl with | [_], _ => rfl
  have F_is_bound := L2.fun_mk (st := s_is_bound) l_is_bound c_is_bound k_is_bound
  have b_is_bound := F_is_bound.binds (ps := ["value"]) fun _ _ _ _ _ _ us hl => match us, hl with | [_], _ => rfl
  have F_check_number := L2.fun_mk (st := s_check_number) l_check_number c_check_number k_check_number
  have b_check_number := F_check_number.binds (ps := ["number", "first"]) fun _ _ _ _ _ _ us hl => match us, hl with | [_, _], _ => rfl
  have F__lessers_below := L2.fun_mk (st := s__lessers_below) l__lessers_below c__lessers_below k__lessers_below
  have b__lessers_below := F__lessers_below.binds (ps := ["bound", "end"]) fun _ _ _ _ _ _ us hl => match us, hl with | [_, _], _ => rfl
  have F__law_number := L2.fun_mk (st := s__law_number) l__law_number c__law_number k__law_number
  have b__law_number := F__law_number.binds (ps := ["_law_cell", "_law_k", "_law_limit"]) fun _ _ _ _ _ _ us hl => match us, hl with | [_, _, _], _ => rfl
  have F__law_pair := L2.fun_mk (st := s__law_pair) l__law_pair c__law_pair k__law_pair
  have b__law_pair := F__law_pair.binds (ps := ["_law_by", "_law_at"]) fun _ _ _ _ _ _ us hl => match us, hl with | [_, _], _ => rfl
  have F__law_is_pair := L2.fun_mk (st := s__law_is_pair) l__law_is_pair c__law_is_pair k__law_is_pair
  have b__law_is_pair := F__law_is_pair.binds (ps := ["_law_found"]) fun _ _ _ _ _ _ us hl => match us, hl with | [_], _ => rfl
  have F_check_bound := L2.fun_mk (st := s_check_bound) l_check_bound c_check_bound k_check_bound
  have b_check_bound := F_check_bound.binds (ps := ["bound"]) fun _ _ _ _ _ _ us hl => match us, hl with | [_], _ => rfl
  have F__law_bound := L2.fun_mk (st := s__law_bound) l__law_bound c__law_bound k__law_bound
  have b__law_bound := F__law_bound.binds (ps := ["_law_script", "_law_k"]) fun _ _ _ _ _ _ us hl => match us, hl with | [_, _], _ => rfl
  have F_pair_by := L2.fun_mk (st := s_pair_by) l_pair_by c_pair_by k_pair_by
  have b_pair_by := F_pair_by.binds (ps := ["bound", "number"]) fun _ _ _ _ _ _ us hl => match us, hl with | [_, _], _ => rfl
  have F_pair_with := L2.fun_mk (st := s_pair_with) l_pair_with c_pair_with k_pair_with
  have b_pair_with := F_pair_with.binds (ps := ["bound", "number"]) fun _ _ _ _ _ _ us hl => match us, hl with | [_, _], _ => rfl
  have F__law_first_right := L2.fun_mk (st := s__law_first_right) l__law_first_right c__law_first_right k__law_first_right
  have b__law_first_right := F__law_first_right.binds (ps := ["_law_bound_here"]) fun _ _ _ _ _ _ us hl => match us, hl with | [_], _ => rfl
  have F__law_right := L2.fun_mk (st := s__law_right) l__law_right c__law_right k__law_right
  have b__law_right := F__law_right.binds (ps := ["_law_bound_here", "_law_number_here"]) fun _ _ _ _ _ _ us hl => match us, hl with | [_, _], _ => rfl
  have F_law := L2.fun_mk (st := s_law) l_law c_law k_law
  have b_law := F_law.binds (ps := ["_law_script"]) fun _ _ _ _ _ _ us hl => match us, hl with | [_], _ => rfl
  refine ⟨PySem.W.fnOf "law" "law" (L2.defArgs s_law) (L2.defBody s_law) (L2.defScope s_law) .none kV_law dc_law pm_law an_law cd_law ct_law, fun s u => .of_eq rfl, fun base _ _ => ?_⟩
  have kis_whole : C8.Cal P w K mg base 1 "is_whole" (sp_is_whole K cs0) [] := ⟨f_is_whole, _, _, [], ok_is_whole (P := P) (w := w) (base := base) F_is_whole T, PySem.W.mg_of X G a_is_whole, k_is_whole, b_is_whole, .nil⟩
  have k_times_root : C8.Cal P w K mg base 1 "_times_root" (sp__times_root K cs0) [] := ⟨f__times_root, _, _, [], ok__times_root (P := P) (w := w) (base := base) F__times_root T, PySem.W.mg_of X G a__times_root, k__times_root, b__times_root, .nil⟩
  have k_law_cell_at : C8.Cal P w K mg base 1 "_law_cell_at" (sp__law_cell_at K cs0) [] := ⟨f__law_cell_at, _, _, [], ok__law_cell_at (P := P) (w := w) (base := base) F__law_cell_at T, PySem.W.mg_of X G a__law_cell_at, k__law_cell_at, b__law_cell_at, .nil⟩
  have k_law_draw : C8.Cal P w K mg base 1 "_law_draw" (sp__law_draw K cs0) [] := ⟨f__law_draw, _, _, [], ok__law_draw (P := P) (w := w) (base := base) F__law_draw T, PySem.W.mg_of X G a__law_draw, k__law_draw, b__law_draw, .nil⟩
  have k_law_root : C8.Cal P w K mg base 1 "_law_root" (sp__law_root K cs0) [] := ⟨f__law_root, _, _, [], ok__law_root (P := P) (w := w) (base := base) F__law_root T, PySem.W.mg_of X G a__law_root, k__law_root, b__law_root, .nil⟩
  have k_law_whole : C8.Cal P w K mg base 1 "_law_whole" (sp__law_whole K cs0) [] := ⟨f__law_whole, _, _, [], ok__law_whole (P := P) (w := w) (base := base) F__law_whole T, PySem.W.mg_of X G a__law_whole, k__law_whole, b__law_whole, .nil⟩
  have kis_bound : C8.Cal P w K mg base 2 "is_bound" (sp_is_bound K cs0) [] := ⟨f_is_bound, _, _, [], ok_is_bound (P := P) (w := w) (base := base) F_is_bound T kis_whole, PySem.W.mg_of X G a_is_bound, k_is_bound, b_is_bound, .nil⟩
  have kcheck_number : C8.Cal P w K mg base 2 "check_number" (sp_check_number K cs0) [] := ⟨f_check_number, _, _, [], ok_check_number (P := P) (w := w) (base := base) F_check_number T kis_whole, PySem.W.mg_of X G a_check_number, k_check_number, b_check_number, .nil⟩
  have k_lessers_below : C8.Cal P w K mg base 2 "_lessers_below" (sp__lessers_below K cs0) [] := ⟨f__lessers_below, _, _, [], ok__lessers_below (P := P) (w := w) (base := base) F__lessers_below T k_times_root, PySem.W.mg_of X G a__lessers_below, k__lessers_below, b__lessers_below, .nil⟩
  have k_law_number : C8.Cal P w K mg base 2 "_law_number" (sp__law_number K cs0) [] := ⟨f__law_number, _, _, [], ok__law_number (P := P) (w := w) (base := base) F__law_number T k_law_draw, PySem.W.mg_of X G a__law_number, k__law_number, b__law_number, .nil⟩
  have k_law_pair : C8.Cal P w K mg base 2 "_law_pair" (sp__law_pair K cs0) [] := ⟨f__law_pair, _, _, [], ok__law_pair (P := P) (w := w) (base := base) F__law_pair T k_law_root, PySem.W.mg_of X G a__law_pair, k__law_pair, b__law_pair, .nil⟩
  have k_law_is_pair : C8.Cal P w K mg base 2 "_law_is_pair" (sp__law_is_pair K cs0) [] := ⟨f__law_is_pair, _, _, [], ok__law_is_pair (P := P) (w := w) (base := base) F__law_is_pair T k_law_whole, PySem.W.mg_of X G a__law_is_pair, k__law_is_pair, b__law_is_pair, .nil⟩
  have kcheck_bound : C8.Cal P w K mg base 3 "check_bound" (sp_check_bound K cs0) [] := ⟨f_check_bound, _, _, [], ok_check_bound (P := P) (w := w) (base := base) F_check_bound T kis_bound, PySem.W.mg_of X G a_check_bound, k_check_bound, b_check_bound, .nil⟩
  have k_law_bound : C8.Cal P w K mg base 3 "_law_bound" (sp__law_bound K cs0) [] := ⟨f__law_bound, _, _, [], ok__law_bound (P := P) (w := w) (base := base) F__law_bound T k_law_cell_at k_law_draw k_law_number, PySem.W.mg_of X G a__law_bound, k__law_bound, b__law_bound, .nil⟩
  have kpair_by : C8.Cal P w K mg base 4 "pair_by" (sp_pair_by K cs0) [] := ⟨f_pair_by, _, _, [], ok_pair_by (P := P) (w := w) (base := base) F_pair_by T k_times_root kcheck_number kcheck_bound, PySem.W.mg_of X G a_pair_by, k_pair_by, b_pair_by, .nil⟩
  have kpair_with : C8.Cal P w K mg base 5 "pair_with" (sp_pair_with K cs0) [] := ⟨f_pair_with, _, _, [], ok_pair_with (P := P) (w := w) (base := base) F_pair_with T kcheck_number k_lessers_below kcheck_bound kpair_by, PySem.W.mg_of X G a_pair_with, k_pair_with, b_pair_with, .nil⟩
  have k_law_first_right : C8.Cal P w K mg base 5 "_law_first_right" (sp__law_first_right K cs0) [] := ⟨f__law_first_right, _, _, [], ok__law_first_right (P := P) (w := w) (base := base) F__law_first_right T kpair_by, PySem.W.mg_of X G a__law_first_right, k__law_first_right, b__law_first_right, .nil⟩
  have k_law_right : C8.Cal P w K mg base 6 "_law_right" (sp__law_right K cs0) [] := ⟨f__law_right, _, _, [], ok__law_right (P := P) (w := w) (base := base) F__law_right T k_law_pair k_law_is_pair kpair_by kpair_with, PySem.W.mg_of X G a__law_right, k__law_right, b__law_right, .nil⟩
  exact ok_law (P := P) (w := w) (base := base) F_law T k_law_cell_at k_law_draw k_law_whole k_law_number k_law_pair k_law_bound kpair_by kpair_with k_law_first_right k_law_right
theorem walk_law {l : PySem.W.OpenLaw} {q : Program} {loose : List Str} {XP : (Str → Option Value) → Heap → Prop} {YP : World → Heap → Prop} {d : DefRec} {K : Params → PySem.W.Frag} (hn : l.most = some 63) (hdf : d.params.defaults = [])
    (hY : ∀ (w : World) (h : Heap), YP w h → (K w.params).In h)
    (F : ∀ (w : World) (mg : Str → Option Value) (fa : Addr) (h : Heap), (K w.params).In h → h.Ns mainGlobals mg → mg d.name = some (.ref fa) →
      ∃ fd : FuncData, (∀ (s : Shared) (u : Value), BindsTo s fd ⟨[u], []⟩ [("_law_script", u)]) ∧ ∀ base : Heap, (K w.params).In base → base.Ns mainGlobals mg → FnOk l.prog w (K w.params) mg base CX0 7 fa fd ["_law_script"] (sp_law (K w.params) cs0)) :
    PySem.W.WalkO q loose XP YP l.row.toRowW d [] (fun f vs => PySem.call f vs) :=
  L2.walk_ofB (n := 63) (k := 7) (x := "_law_script") (CX := fun _ => CX0) (sp := fun w => sp_law (K w.params) cs0) hn (by decide) hdf ⟨rfl, by decide, by decide⟩ hY F
    (fun _ _ a ns hl hb _ hS => ⟨a, ns, rfl, hS, fun z hz => sm_bits (hb z hz), hl, fun _ => rfl⟩) fun _ _ _ _ _ z => z
end TH
open PySem PySem.W PyProof.Rows
set_option maxRecDepth 100000 in
set_option maxHeartbeats 0 in
theorem PySem.Challenge.cw_twoheaps_k02_whole_pairs_holds : PySem.Challenge.rw_twoheaps_k02_whole_pairs.Holds := by
  w_on; o_law; k_head; (case hw => w_witness2)
  k_fill
  refine TH.walk_law (l := PySem.Challenge.rw_twoheaps_k02_whole_pairs) rfl rfl (fun w h Y => PySem.W.kIn_of Y) ?F
  case F =>
    intro w mg fa h KX G hmg
    refine' TH.all_mk KX G hmg ?a_is_whole ?l_is_whole ?c_is_whole ?k_is_whole ?a__times_root ?l__times_root ?c__times_root ?k__times_root ?a__law_cell_at ?l__law_cell_at ?c__law_cell_at ?k__law_cell_at ?a__law_draw ?l__law_draw ?c__law_draw ?k__law_draw ?a__law_root ?l__law_root ?c__law_root ?k__law_root ?a__law_whole ?l__law_whole ?c__law_whole ?k__law_whole ?a_is_bound ?l_is_bound ?c_is_bound ?k_is_bound ?a_check_number ?l_check_number ?c_check_number ?k_check_number ?a__lessers_below ?l__lessers_below ?c__lessers_below ?k__lessers_below ?a__law_number ?l__law_number ?c__law_number ?k__law_number ?a__law_pair ?l__law_pair ?c__law_pair ?k__law_pair ?a__law_is_pair ?l__law_is_pair ?c__law_is_pair ?k__law_is_pair ?a_check_bound ?l_check_bound ?c_check_bound ?k_check_bound ?a__law_bound ?l__law_bound ?c__law_bound ?k__law_bound ?a_pair_by ?l_pair_by ?c_pair_by ?k_pair_by ?a_pair_with ?l_pair_with ?c_pair_with ?k_pair_with ?a__law_first_right ?l__law_first_right ?c__law_first_right ?k__law_first_right ?a__law_right ?l__law_right ?c__law_right ?k__law_right ?a_law ?l_law ?c_law ?k_law ?z_bool ?z_int ?z_isinstance ?z_isqrt ?z_len ?z_max ?z_range ?z_tuple
    (case a_is_whole => k_is)
    (case l_is_whole => k_is)
    (case c_is_whole => k_is)
    (case k_is_whole => k_is)
    (case a__times_root => k_is)
    (case l__times_root => k_is)
    (case c__times_root => k_is)
    (case k__times_root => k_is)
    (case a__law_cell_at => k_is)
    (case l__law_cell_at => k_is)
    (case c__law_cell_at => k_is)
    (case k__law_cell_at => k_is)
    (case a__law_draw => k_is)
    (case l__law_draw => k_is)
    (case c__law_draw => k_is)
    (case k__law_draw => k_is)
    (case a__law_root => k_is)
    (case l__law_root => k_is)
    (case c__law_root => k_is)
    (case k__law_root => k_is)
    (case a__law_whole => k_is)
    (case l__law_whole => k_is)
    (case c__law_whole => k_is)
    (case k__law_whole => k_is)
    (case a_is_bound => k_is)
    (case l_is_bound => k_is)
    (case c_is_bound => k_is)
    (case k_is_bound => k_is)
    (case a_check_number => k_is)
    (case l_check_number => k_is)
    (case c_check_number => k_is)
    (case k_check_number => k_is)
    (case a__lessers_below => k_is)
    (case l__lessers_below => k_is)
    (case c__lessers_below => k_is)
    (case k__lessers_below => k_is)
    (case a__law_number => k_is)
    (case l__law_number => k_is)
    (case c__law_number => k_is)
    (case k__law_number => k_is)
    (case a__law_pair => k_is)
    (case l__law_pair => k_is)
    (case c__law_pair => k_is)
    (case k__law_pair => k_is)
    (case a__law_is_pair => k_is)
    (case l__law_is_pair => k_is)
    (case c__law_is_pair => k_is)
    (case k__law_is_pair => k_is)
    (case a_check_bound => k_is)
    (case l_check_bound => k_is)
    (case c_check_bound => k_is)
    (case k_check_bound => k_is)
    (case a__law_bound => k_is)
    (case l__law_bound => k_is)
    (case c__law_bound => k_is)
    (case k__law_bound => k_is)
    (case a_pair_by => k_is)
    (case l_pair_by => k_is)
    (case c_pair_by => k_is)
    (case k_pair_by => k_is)
    (case a_pair_with => k_is)
    (case l_pair_with => k_is)
    (case c_pair_with => k_is)
    (case k_pair_with => k_is)
    (case a__law_first_right => k_is)
    (case l__law_first_right => k_is)
    (case c__law_first_right => k_is)
    (case k__law_first_right => k_is)
    (case a__law_right => k_is)
    (case l__law_right => k_is)
    (case c__law_right => k_is)
    (case k__law_right => k_is)
    (case a_law => k_is)
    (case l_law => k_is)
    (case c_law => k_is)
    (case k_law => k_is)
    (case z_bool => k_is)
    (case z_int => k_is)
    (case z_isinstance => k_is)
    (case z_isqrt => k_is)
    (case z_len => k_is)
    (case z_max => k_is)
    (case z_range => k_is)
    (case z_tuple => k_is)
#print axioms PySem.Challenge.cw_twoheaps_k02_whole_pairs_holds
