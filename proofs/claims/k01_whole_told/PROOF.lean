import PyProof.Rows.All
import Wide.All
import OpenK.AllK
import Wide.FinOn
import HandS.ForExc
import HandS.Wide
import HandS.WideBits
import HandS.Gcd
import HandS.IsInst
import HandS.Codes
import HandS.Style
import HandS.TupLe
import HandS.TupAny
import HandS.EndBits
import HandS.Evl
import HandS.LawCells
import HandS.Dict
import HandS.Iter
import HandS.Comp
import HandS.ExcIs
import KE.DataMinMax
import KE.KMathG
import Flt.RightSqrt
import PySem.Challenge.RW_twoheaps_k01_whole_told
set_option Elab.async false
set_option linter.all false
set_option maxRecDepth 100000
set_option maxHeartbeats 4000000
namespace Th
/-! roots -/
def rtN : Nat → Nat
  | 0 => 0
  | n + 1 => if (rtN n + 1) * (rtN n + 1) ≤ n + 1 then rtN n + 1 else rtN n
theorem rtN_spec : ∀ n, rtN n * rtN n ≤ n ∧ n < (rtN n + 1) * (rtN n + 1)
  | 0 => by decide
  | n + 1 => by
    obtain ⟨h1, h2⟩ := rtN_spec n
    rw [rtN]
    split
    · rename_i c
      refine ⟨c, ?_⟩
      grind
    · omega
def rt (N : Int) : Int := (rtN N.toNat : Int)
theorem rt_nn (N : Int) : 0 ≤ rt N := Int.natCast_nonneg _
theorem rt_spec {N : Int} (h : 0 ≤ N) : rt N * rt N ≤ N ∧ N < (rt N + 1) * (rt N + 1) := by
  obtain ⟨h1, h2⟩ := rtN_spec N.toNat
  have e : ((N.toNat : Nat) : Int) = N := Int.toNat_of_nonneg h
  have h1' := Int.ofNat_le.mpr h1
  have h2' := Int.ofNat_lt.mpr h2
  rw [e] at h1' h2'
  unfold rt
  push_cast at h1' h2'
  exact ⟨h1', h2'⟩
theorem sq_le {x y : Int} (hx : 0 ≤ x) (h : x ≤ y) : x * x ≤ y * y := Int.mul_le_mul h h hx (by omega)
theorem sq_lt {x y : Int} (hx : 0 ≤ x) (h : x < y) : x * x < y * y := by
  have h1 : x * x ≤ x * y := Int.mul_le_mul_of_nonneg_left (by omega) hx
  have h2 : x * y < y * y := Int.mul_lt_mul_of_pos_right h (by omega)
  omega
theorem of_sq_le {x y : Int} (hy : 0 ≤ y) (h : x * x ≤ y * y) : x ≤ y := by
  by_cases c : x ≤ y
  · exact c
  · have := sq_lt hy (show y < x by omega)
    omega
theorem of_sq_lt {x y : Int} (hy : 0 ≤ y) (h : x * x < y * y) : x < y := by
  by_cases c : x < y
  · exact c
  · have := sq_le hy (show y ≤ x by omega)
    omega
theorem rt_uniq {N r : Int} (hr : 0 ≤ r) (h1 : r * r ≤ N) (h2 : N < (r + 1) * (r + 1)) : rt N = r := by
  have h0 : 0 ≤ r * r := Int.mul_nonneg hr hr
  obtain ⟨g1, g2⟩ := rt_spec (N := N) (by omega)
  have hn := rt_nn N
  have a := of_sq_lt (x := rt N) (y := r + 1) (by omega) (by omega)
  have b := of_sq_lt (x := r) (y := rt N + 1) (by omega) (by omega)
  omega
/-- t ≤ root N, for t from 0 on -/
theorem le_rt {N t : Int} (h : 0 ≤ N) (ht : 0 ≤ t) : t ≤ rt N ↔ t * t ≤ N := by
  obtain ⟨g1, g2⟩ := rt_spec h
  have hn := rt_nn N
  constructor
  · intro c
    have := sq_le ht c
    omega
  · intro c
    have := of_sq_lt (x := t) (y := rt N + 1) (by omega) (by omega)
    omega
theorem rt_lt {N t : Int} (h : 0 ≤ N) (ht : 0 ≤ t) : rt N < t ↔ N < t * t := by
  have := le_rt h ht
  omega
/-! the form -/
def G (b x z : Int) : Int := x * x + b * x * z - z * z
def D (b n : Int) : Int := n * n * (b * b + 4)
theorem D_nn (b n : Int) : 0 ≤ D b n := by
  have h1 : 0 ≤ n * n := by
    by_cases c : 0 ≤ n
    · exact Int.mul_nonneg c c
    · have := Int.mul_nonneg (show 0 ≤ -n by omega) (show 0 ≤ -n by omega)
      rwa [Int.neg_mul_neg] at this
  have h2 : 0 ≤ b * b := by
    by_cases c : 0 ≤ b
    · exact Int.mul_nonneg c c
    · have := Int.mul_nonneg (show 0 ≤ -b by omega) (show 0 ≤ -b by omega)
      rwa [Int.neg_mul_neg] at this
  exact Int.mul_nonneg h1 (by omega)
/-- the root is none of the fractions -/
theorem G_ne_nat (b : Int) (hb : 1 ≤ b) : ∀ (k : Nat) (z : Int), 0 ≤ z → G b ((k : Int) + 1) z ≠ 0 := by
  intro k
  induction k using Nat.strongRecOn with
  | ind k ih =>
    intro z hz h
    unfold G at h
    -- z (z - b m) = m m
    generalize hm : (k : Int) + 1 = m at h
    have hm1 : 1 ≤ m := by omega
    have hw : 0 < z - b * m := by
      by_cases c : 0 < z - b * m
      · exact c
      · have h1 : 0 ≤ z * (b * m - z) := Int.mul_nonneg hz (by omega)
        have h2 : 0 < m * m := Int.mul_pos (by omega) (by omega)
        grind
    have hwm : z - b * m < m := by
      by_cases c : z - b * m < m
      · exact c
      · have h0 : 0 < b * m := Int.mul_pos (by omega) (by omega)
        have h1 : m * m ≤ (z - b * m) * m := Int.mul_le_mul_of_nonneg_right (by omega) (by omega)
        have h2 : 0 < (z - b * m) * (z - m) := Int.mul_pos hw (by omega)
        grind
    refine ih (z - b * m - 1).toNat (by omega) m (by omega) ?_
    have e : (((z - b * m - 1).toNat : Nat) : Int) + 1 = z - b * m := by omega
    rw [e]
    unfold G
    grind
theorem G_ne {b x z : Int} (hb : 1 ≤ b) (hx : 1 ≤ x) (hz : 0 ≤ z) : G b x z ≠ 0 := by
  have := G_ne_nat b hb (x - 1).toNat z hz
  rwa [show (((x - 1).toNat : Nat) : Int) + 1 = x by omega] at this
/-! the pairs -/
def A (b n : Int) : Int := (rt (D b n) - n * (b - 2)) / 2
def B (b n : Int) : Int := A b n + b * n
theorem A_lt {b x z : Int} (hb : 1 ≤ b) (hx : 0 ≤ x) (hz : 0 ≤ z) : A b z < z + x ↔ 0 < G b x z := by
  have h0 := D_nn b z
  have hbz : 0 ≤ b * z := Int.mul_nonneg (by omega) hz
  have h1 := rt_lt h0 (t := b * z + 2 * x) (by omega)
  have e1 : z * (b - 2) = b * z - 2 * z := by grind
  have e2 : (b * z + 2 * x) * (b * z + 2 * x) - D b z = 4 * G b x z := by unfold D G; grind
  unfold A
  rw [e1]
  omega
theorem A_ge {b z : Int} (hb : 1 ≤ b) (hz : 0 ≤ z) : z ≤ A b z := by
  have h := A_lt (x := 0) hb (Int.le_refl 0) hz
  have e : G b 0 z = - (z * z) := by unfold G; grind
  have := Int.mul_nonneg hz hz
  omega
theorem A_zero {b : Int} : A b 0 = 0 := by
  have e : D b 0 = 0 := by unfold D; grind
  have r : rt 0 = 0 := rt_uniq (Int.le_refl 0) (by decide) (by decide)
  unfold A
  rw [e, r]
  simp
/-- 1/2 (2 - b + sqrt ..) is less than 2 -/
theorem A_le {b z : Int} (hb : 1 ≤ b) (hz : 0 ≤ z) : A b z ≤ 2 * z := by
  have h := A_lt (x := z + 1) hb (by omega) hz
  have e : G b (z + 1) z = 2 * z + 1 + b * (z * (z + 1)) := by unfold G; grind
  have := Int.mul_nonneg (show 0 ≤ b by omega) (Int.mul_nonneg hz (show 0 ≤ z + 1 by omega))
  omega
theorem A_step {b n : Int} (hb : 1 ≤ b) (hn : 0 ≤ n) : A b n < A b (n + 1) := by
  have g := A_ge hb hn
  obtain ⟨x, hx⟩ : ∃ x, x = A b n - n := ⟨_, rfl⟩
  have hx0 : 0 ≤ x := by omega
  have h1 := A_lt (x := x) hb hx0 hn
  have h2 := A_lt (x := x) hb hx0 (show 0 ≤ n + 1 by omega)
  have k : G b x n ≤ 0 := by omega
  have key : b * x ≤ 2 * n := by
    by_cases c : b * x ≤ 2 * n
    · exact c
    · exfalso
      unfold G at k
      have c1 : 0 ≤ n * (b * x - 2 * n) := Int.mul_nonneg hn (by omega)
      have c2 : 0 ≤ n * n := Int.mul_nonneg hn hn
      have c3 : 0 ≤ x * x := Int.mul_nonneg hx0 hx0
      have c6 : n * (b * x - 2 * n) = b * x * n - 2 * (n * n) := by grind
      have c4 : x * x = 0 := by omega
      have c5 : x = 0 := by
        rcases Int.mul_eq_zero.mp c4 with h | h <;> exact h
      rw [c5] at c
      omega
  have e : G b x (n + 1) = G b x n + (b * x - 2 * n - 1) := by unfold G; grind
  have : ¬ A b (n + 1) < n + 1 + x := by omega
  omega
theorem A_mono {b n m : Int} (hb : 1 ≤ b) (hn : 0 ≤ n) (h : n < m) : A b n < A b m := by
  have key : ∀ k : Nat, A b n < A b (n + 1 + k) := by
    intro k
    induction k with
    | zero => simpa using A_step hb hn
    | succ k ih =>
      have := A_step hb (show 0 ≤ n + 1 + (k : Int) by omega)
      have e : n + 1 + ((k + 1 : Nat) : Int) = n + 1 + (k : Int) + 1 := by omega
      rw [e]
      omega
  have := key (m - n - 1).toNat
  rwa [show n + 1 + (((m - n - 1).toNat : Nat) : Int) = m by omega] at this
theorem A_le_mono {b n m : Int} (hb : 1 ≤ b) (hn : 0 ≤ n) (h : n ≤ m) : A b n ≤ A b m := by
  rcases Int.lt_or_eq_of_le h with c | c
  · exact Int.le_of_lt (A_mono hb hn c)
  · rw [c]; exact Int.le_refl _
theorem A_lt_iff {b n m : Int} (hb : 1 ≤ b) (hn : 0 ≤ n) (hm : 0 ≤ m) : A b n < A b m ↔ n < m := by
  constructor
  · intro h
    by_cases c : n < m
    · exact c
    · have := A_le_mono hb hm (show m ≤ n by omega)
      omega
  · exact A_mono hb hn
theorem A_inj {b n m : Int} (hb : 1 ≤ b) (hn : 0 ≤ n) (hm : 0 ≤ m) (h : A b n = A b m) : n = m := by
  have h1 := A_lt_iff hb hn hm
  have h2 := A_lt_iff hb hm hn
  omega
theorem mul_mono {b n m : Int} (hb : 1 ≤ b) (h : n < m) : b * n < b * m := Int.mul_lt_mul_of_pos_left h (by omega)
theorem B_mono {b n m : Int} (hb : 1 ≤ b) (hn : 0 ≤ n) (h : n < m) : B b n < B b m := by
  have := A_mono hb hn h
  have := mul_mono hb h
  unfold B
  omega
theorem B_inj {b n m : Int} (hb : 1 ≤ b) (hn : 0 ≤ n) (hm : 0 ≤ m) (h : B b n = B b m) : n = m := by
  rcases Int.lt_trichotomy n m with c | c | c
  · have := B_mono hb hn c; omega
  · exact c
  · have := B_mono hb hm c; omega
theorem B_gt {b n : Int} (hb : 1 ≤ b) (hn : 1 ≤ n) : A b n < B b n := by
  have := Int.mul_pos (show 0 < b by omega) (show 0 < n by omega)
  unfold B
  omega
theorem A_pos {b n : Int} (hb : 1 ≤ b) (hn : 1 ≤ n) : 1 ≤ A b n := by
  have := A_ge hb (show 0 ≤ n by omega)
  omega
/-- y is at most the other number of pair m just if .. -/
theorem dual {b m y : Int} (hb : 1 ≤ b) (hm : 1 ≤ m) (hy : m ≤ y) : y ≤ B b m ↔ A b (y - m) < y := by
  obtain ⟨z, rfl⟩ : ∃ z, y = z + m := ⟨y - m, by omega⟩
  have hz : 0 ≤ z := by omega
  have h1 := A_lt (x := m) (z := z) hb (by omega) hz
  rw [show z + m - m = z by omega]
  have hne := G_ne (z := z) hb hm hz
  have hbm : 0 ≤ b * m := Int.mul_nonneg (by omega) (by omega)
  unfold B
  by_cases c : b * m ≤ z
  · have h2 := A_lt (x := z - b * m) (z := m) hb (by omega) (by omega)
    have e : G b (z - b * m) m = - G b m z := by unfold G; grind
    omega
  · have g := A_ge hb (show 0 ≤ m by omega)
    have p : 0 < G b m z := by
      have e : G b m z = m * m + z * (b * m - z) := by unfold G; grind
      have a1 : 0 < m * m := Int.mul_pos (by omega) (by omega)
      have a2 : 0 ≤ z * (b * m - z) := Int.mul_nonneg hz (by omega)
      omega
    omega
/-! how many lesser numbers stand below e -/
def cnt (b e : Int) : Int := (rt (D b e) + e * (b - 2)) / (2 * b)
theorem rt_ge {b e : Int} (hb : 1 ≤ b) (he : 0 ≤ e) : b * e ≤ rt (D b e) := by
  have hbe : 0 ≤ b * e := Int.mul_nonneg (by omega) he
  rw [le_rt (D_nn b e) hbe]
  have e1 : D b e = (b * e) * (b * e) + 4 * (e * e) := by unfold D; grind
  have := Int.mul_nonneg he he
  omega
theorem cnt_nn {b e : Int} (hb : 1 ≤ b) (he : 0 ≤ e) : 0 ≤ cnt b e := by
  have h := rt_ge hb he
  have h2 : e * (b - 2) = b * e - 2 * e := by grind
  have h3 : e ≤ b * e := by
    have := Int.mul_le_mul_of_nonneg_right hb he
    omega
  unfold cnt
  refine Int.ediv_nonneg ?_ (by omega)
  omega
theorem cnt_spec {b e : Int} (hb : 1 ≤ b) (he : 1 ≤ e) : A b (cnt b e) < e ∧ e ≤ A b (cnt b e + 1) := by
  have hm := cnt_nn hb (show 0 ≤ e by omega)
  have d1 : 2 * b * cnt b e ≤ rt (D b e) + e * (b - 2) := Int.mul_ediv_self_le (by omega)
  have d2 : rt (D b e) + e * (b - 2) < 2 * b * cnt b e + 2 * b := Int.lt_mul_ediv_self_add (by omega)
  generalize cnt b e = m at *
  have hD := D_nn b e
  have hbe : e ≤ b * e := by
    have := Int.mul_le_mul_of_nonneg_right hb (show 0 ≤ e by omega)
    omega
  have hee : 0 < e * e := Int.mul_pos (by omega) (by omega)
  -- m below e
  have hme : m < e ∧ 0 < G b (e - m) m := by
    by_cases c : 0 ≤ 2 * b * m - e * (b - 2)
    · have k := (le_rt hD c).mp (by omega)
      have e1 : (2 * b * m - e * (b - 2)) * (2 * b * m - e * (b - 2)) - D b e = - (4 * (b * G b (e - m) m)) := by unfold D G; grind
      have p : 0 ≤ b * G b (e - m) m := by omega
      have q : 0 ≤ G b (e - m) m := by
        by_cases c2 : 0 ≤ G b (e - m) m
        · exact c2
        · have := Int.mul_pos (show 0 < b by omega) (show 0 < - G b (e - m) m by omega)
          rw [Int.mul_neg] at this
          omega
      have l : m < e := by
        by_cases c3 : m < e
        · exact c3
        · exfalso
          have e2 : G b (e - m) m = (e - m) * (e - m) + b * (e - m) * m - m * m := rfl
          have e3 : (e - m) * (e - m) - m * m = - (e * (2 * m - e)) := by grind
          have e4 : 0 < e * (2 * m - e) := Int.mul_pos (by omega) (by omega)
          have e5 : 0 ≤ b * (m - e) * m := Int.mul_nonneg (Int.mul_nonneg (by omega) (by omega)) hm
          have e6 : b * (e - m) * m = - (b * (m - e) * m) := by grind
          omega
      refine ⟨l, ?_⟩
      have := G_ne (x := e - m) (z := m) hb (by omega) hm
      omega
    · have l : m < e := by
        by_cases c3 : m < e
        · exact c3
        · exfalso
          have : 0 ≤ b * (m - e) := Int.mul_nonneg (by omega) (by omega)
          have e6 : 2 * b * m - e * (b - 2) = 2 * (b * (m - e)) + b * e + 2 * e := by grind
          omega
      refine ⟨l, ?_⟩
      have e2 : G b (e - m) m = e * e + m * (e * (b - 2) - 2 * b * m) + b * (m * m) := by unfold G; grind
      have a1 : 0 ≤ m * (e * (b - 2) - 2 * b * m) := Int.mul_nonneg hm (by omega)
      have a2 : 0 ≤ b * (m * m) := Int.mul_nonneg (by omega) (Int.mul_nonneg hm hm)
      omega
  obtain ⟨hl, hG⟩ := hme
  constructor
  · have := (A_lt (x := e - m) (z := m) hb (by omega) hm).mpr hG
    omega
  · -- not below
    have w0 : 0 ≤ 2 * b * (m + 1) - e * (b - 2) ∧ D b e < (2 * b * (m + 1) - e * (b - 2)) * (2 * b * (m + 1) - e * (b - 2)) := by
      have e1 : 2 * b * (m + 1) = 2 * b * m + 2 * b := by grind
      have r0 := rt_nn (D b e)
      have c : 0 ≤ 2 * b * (m + 1) - e * (b - 2) := by omega
      exact ⟨c, (rt_lt hD c).mp (by omega)⟩
    obtain ⟨c, k⟩ := w0
    have e1 : (2 * b * (m + 1) - e * (b - 2)) * (2 * b * (m + 1) - e * (b - 2)) - D b e = - (4 * (b * G b (e - (m + 1)) (m + 1))) := by unfold D G; grind
    have p : b * G b (e - (m + 1)) (m + 1) < 0 := by omega
    have q : G b (e - (m + 1)) (m + 1) < 0 := by
      by_cases c2 : 0 ≤ G b (e - (m + 1)) (m + 1)
      · have := Int.mul_nonneg (show 0 ≤ b by omega) c2
        omega
      · omega
    have := (A_lt (x := e - (m + 1)) (z := m + 1) hb (by omega) (by omega))
    omega
/-! in which pair a number is -/
def pw (b k : Int) : Int := if A b (cnt b (k + 1)) = k then cnt b (k + 1) else k - cnt b (k + 1)
theorem pw_spec {b k : Int} (hb : 1 ≤ b) (hk : 1 ≤ k) : 1 ≤ pw b k ∧ pw b k ≤ k ∧ (A b (pw b k) = k ∨ B b (pw b k) = k) := by
  have hm := cnt_nn hb (show 0 ≤ k + 1 by omega)
  obtain ⟨h1, h2⟩ := cnt_spec hb (show 1 ≤ k + 1 by omega)
  have g := A_ge hb hm
  unfold pw
  generalize cnt b (k + 1) = m at *
  split
  · rename_i c
    refine ⟨?_, by omega, Or.inl c⟩
    by_cases z : m = 0
    · rw [z, A_zero] at c
      omega
    · omega
  · rename_i c
    refine ⟨by omega, by omega, Or.inr ?_⟩
    have n1 : 1 ≤ k - m := by omega
    have d1 := dual (m := k - m) (y := k) hb n1 (by omega)
    have d2 := dual (m := k - m) (y := k + 1) hb n1 (by omega)
    rw [show k - (k - m) = m by omega] at d1
    rw [show k + 1 - (k - m) = m + 1 by omega] at d2
    omega
theorem A_ne_B {b n m : Int} (hb : 1 ≤ b) (hn : 1 ≤ n) (hm : 1 ≤ m) : A b n ≠ B b m := by
  intro h
  have gm := A_ge hb (show 0 ≤ m by omega)
  have gB := B_gt hb hm
  have d1 := (dual (m := m) (y := B b m) hb hm (by omega)).mp (Int.le_refl _)
  have d2 := dual (m := m) (y := B b m + 1) hb hm (by omega)
  have k1 : A b (B b m - m) < A b n := by omega
  have k2 : A b n < A b (B b m + 1 - m) := by omega
  have l1 := (A_lt_iff hb (by omega) (by omega)).mp k1
  have l2 := (A_lt_iff hb (by omega) (by omega)).mp k2
  omega
theorem pw_A {b n : Int} (hb : 1 ≤ b) (hn : 1 ≤ n) : pw b (A b n) = n := by
  obtain ⟨h1, h2, h3⟩ := pw_spec hb (A_pos hb hn)
  rcases h3 with h | h
  · exact A_inj hb (by omega) (by omega) h
  · exact absurd h.symm (A_ne_B hb hn h1)
theorem pw_B {b n : Int} (hb : 1 ≤ b) (hn : 1 ≤ n) : pw b (B b n) = n := by
  have p : 1 ≤ B b n := by
    have := B_gt hb hn
    have := A_pos hb hn
    omega
  obtain ⟨h1, h2, h3⟩ := pw_spec hb p
  rcases h3 with h | h
  · exact absurd h (A_ne_B hb h1 hn)
  · exact B_inj hb (by omega) (by omega) h
/-! the root from above, each time halfway -/
theorem newton_ge {N x r : Int} (h : r * r ≤ N) (hx : 1 ≤ x) : r ≤ (x + N / x) / 2 := by
  have h1 : (2 * r - x) * x ≤ N := by
    have e : (2 * r - x) * x = r * r - (r - x) * (r - x) := by grind
    have s : 0 ≤ (r - x) * (r - x) := by
      by_cases c : 0 ≤ r - x
      · exact Int.mul_nonneg c c
      · have := Int.mul_nonneg (show 0 ≤ -(r - x) by omega) (show 0 ≤ -(r - x) by omega)
        rwa [Int.neg_mul_neg] at this
    omega
  have h2 : 2 * r - x ≤ N / x := (Int.le_ediv_iff_mul_le (by omega)).mpr h1
  omega
theorem newton_lt {N x : Int} (h : N < x * x) (hx : 1 ≤ x) (h0 : 0 ≤ N) : 0 ≤ (x + N / x) / 2 ∧ (x + N / x) / 2 < x := by
  have h1 : N / x < x := Int.ediv_lt_of_lt_mul (by omega) h
  have h2 : 0 ≤ N / x := Int.ediv_nonneg h0 (by omega)
  omega
theorem rt_le {N : Int} (h : 0 ≤ N) : rt N ≤ N := by
  obtain ⟨h1, h2⟩ := rt_spec h
  have hn := rt_nn N
  by_cases c : rt N = 0
  · omega
  · have := Int.mul_le_mul_of_nonneg_right (show 1 ≤ rt N by omega) hn
    omega
theorem rt_eq {N x : Int} (h : 0 ≤ N) (hx : rt N ≤ x) (hs : x * x ≤ N) : x = rt N := by
  have hn := rt_nn N
  have := (le_rt h (show 0 ≤ x by omega)).mpr hs
  omega
theorem law_least (b n : Int) : (n * (2 - b) + rt (D b n)) / 2 = A b n := by
  have e : n * (2 - b) = - (n * (b - 2)) := by grind
  unfold A
  rw [e]
  congr 1
  omega
/-- what is in no pair ahead of n, and not above its lesser number, is that number -/
theorem first_free {b n k : Int} (hb : 1 ≤ b) (hn : 1 ≤ n) (hk : 1 ≤ k) (hle : k ≤ A b n) (h : ∀ m, 1 ≤ m → m < n → k ≠ A b m ∧ k ≠ B b m) : k = A b n := by
  obtain ⟨h1, h2, h3⟩ := pw_spec hb hk
  generalize pw b k = m at *
  have hm : n ≤ m := by
    by_cases c : m < n
    · have := h m h1 c
      omega
    · omega
  have g := A_le_mono hb (show 0 ≤ n by omega) hm
  have g2 := B_gt hb h1
  omega
/-- a number that is in a pair ahead is not the lesser number of this one -/
theorem ahead_ne {b n k m : Int} (hb : 1 ≤ b) (h1 : 1 ≤ m) (h2 : m < n) (h : k = A b m ∨ k = B b m) : k ≠ A b n := by
  rcases h with h | h
  · have := A_mono hb (show 0 ≤ m by omega) h2
    omega
  · intro e
    exact A_ne_B hb (show 1 ≤ n by omega) h1 (e.symm.trans h)
theorem B_le {b n : Int} (hb : 1 ≤ b) (hn : 0 ≤ n) : B b n ≤ (b + 2) * n := by
  have := A_le hb hn
  have e : (b + 2) * n = b * n + 2 * n := by grind
  unfold B
  omega
theorem B_ge {b n : Int} (hb : 1 ≤ b) (hn : 0 ≤ n) : 0 ≤ B b n := by
  have := A_ge hb hn
  have := Int.mul_nonneg (show 0 ≤ b by omega) hn
  unfold B
  omega
theorem A_one {b : Int} (hb : 1 ≤ b) : A b 1 = 1 := by
  have g := A_ge hb (show (0 : Int) ≤ 1 by decide)
  have h := A_lt (b := b) (x := 1) (z := 1) hb (by decide) (by decide)
  have e : G b 1 1 = b := by unfold G; grind
  omega
/-! the game -/
def ab (i : Int) : Int := if i < 0 then -i else i
theorem ab_def (i : Int) : (ab i = i ∧ 0 ≤ i) ∨ (ab i = -i ∧ i < 0) := by
  unfold ab
  split <;> omega
/-- the number of the lost pair that two heaps are -/
def nof (b h0 h1 : Int) : Option Int :=
  if A b (ab (h0 - h1) / b) = min h0 h1 ∧ B b (ab (h0 - h1) / b) = max h0 h1 then some (ab (h0 - h1) / b) else none
def Lo (b h0 h1 : Int) : Prop := ∃ n, 0 ≤ n ∧ ((h0 = A b n ∧ h1 = B b n) ∨ (h0 = B b n ∧ h1 = A b n))
theorem A_le_B {b n : Int} (hb : 1 ≤ b) (hn : 0 ≤ n) : A b n ≤ B b n := by
  have := Int.mul_nonneg (show 0 ≤ b by omega) hn
  unfold B
  omega
theorem ab_nn (i : Int) : 0 ≤ ab i := by
  rcases ab_def i with h | h <;> omega
theorem apart {b h0 h1 n : Int} (hb : 1 ≤ b) (hn : 0 ≤ n) (h1' : A b n = min h0 h1) (h2 : B b n = max h0 h1) : ab (h0 - h1) = b * n := by
  unfold B at h2
  rcases ab_def (h0 - h1) with h | h <;> omega
theorem nof_of {b h0 h1 n : Int} (hb : 1 ≤ b) (hn : 0 ≤ n) (h : A b n = min h0 h1) (h' : B b n = max h0 h1) : nof b h0 h1 = some n := by
  have e : ab (h0 - h1) / b = n := by
    rw [apart hb hn h h', Int.mul_ediv_cancel_left _ (by omega)]
  unfold nof
  rw [e, if_pos ⟨h, h'⟩]
theorem nof_some {b h0 h1 n : Int} (hb : 1 ≤ b) (h : nof b h0 h1 = some n) : 0 ≤ n ∧ A b n = min h0 h1 ∧ B b n = max h0 h1 := by
  unfold nof at h
  split at h
  · rename_i c
    have e := Option.some.inj h
    rw [e] at c
    have : 0 ≤ ab (h0 - h1) / b := Int.ediv_nonneg (ab_nn _) (by omega)
    exact ⟨by omega, c⟩
  · cases h
theorem nof_lo {b h0 h1 : Int} (hb : 1 ≤ b) : (nof b h0 h1).isSome = true ↔ Lo b h0 h1 := by
  constructor
  · intro h
    cases e : nof b h0 h1 with
    | none => rw [e] at h; cases h
    | some n =>
      obtain ⟨h0', h1', h2'⟩ := nof_some hb e
      refine ⟨n, h0', ?_⟩
      omega
  · rintro ⟨n, hn, h⟩
    have := A_le_B hb hn
    rw [nof_of hb hn (by omega) (by omega)]
    rfl
theorem lo_swap {b h0 h1 : Int} (h : Lo b h0 h1) : Lo b h1 h0 := by
  obtain ⟨n, hn, h⟩ := h
  exact ⟨n, hn, by omega⟩
/-- a taking of these heaps -/
def may (b h0 h1 t0 t1 : Int) : Prop := 0 ≤ t0 ∧ 0 ≤ t1 ∧ ¬ (t0 = 0 ∧ t1 = 0) ∧ t0 ≤ h0 ∧ t1 ≤ h1 ∧ (t0 = 0 ∨ t1 = 0 ∨ ab (t0 - t1) < b)
instance {b h0 h1 t0 t1 : Int} : Decidable (may b h0 h1 t0 t1) := by unfold may; infer_instance
theorem may_swap {b h0 h1 t0 t1 : Int} (h : may b h0 h1 t0 t1) : may b h1 h0 t1 t0 := by
  unfold may at *
  have e : ab (t1 - t0) = ab (t0 - t1) := by
    rcases ab_def (t1 - t0) with h | h <;> rcases ab_def (t0 - t1) with h' | h' <;> omega
  rw [e]
  omega
theorem A_eq_B {b n m : Int} (hb : 1 ≤ b) (hn : 0 ≤ n) (hm : 0 ≤ m) (h : A b n = B b m) : n = 0 ∧ m = 0 := by
  by_cases n0 : n = 0
  · subst n0
    rw [A_zero] at h
    by_cases m0 : m = 0
    · exact ⟨rfl, m0⟩
    · have := A_pos hb (show 1 ≤ m by omega)
      have := A_le_B hb hm
      omega
  · by_cases m0 : m = 0
    · subst m0
      have e : B b 0 = 0 := by unfold B; rw [A_zero]; simp
      have := A_pos hb (show 1 ≤ n by omega)
      omega
    · exact absurd h (A_ne_B hb (by omega) (by omega))
/-- of a lost pair no taking leaves a lost pair -/
theorem lost_no {b h0 h1 t0 t1 : Int} (hb : 1 ≤ b) (h : Lo b h0 h1) (hm : may b h0 h1 t0 t1) : ¬ Lo b (h0 - t0) (h1 - t1) := by
  -- the lesser heap first
  have key : ∀ h0 h1 t0 t1 n : Int, 0 ≤ n → h0 = A b n → h1 = B b n → may b h0 h1 t0 t1 → ¬ Lo b (h0 - t0) (h1 - t1) := by
    intro h0 h1 t0 t1 n hn e0 e1 hm hl
    obtain ⟨m, hmn, hl⟩ := hl
    obtain ⟨u0, u1, u2, u3, u4, u5⟩ := hm
    have d1 : B b n = A b n + b * n := rfl
    have d2 : B b m = A b m + b * m := rfl
    rcases hl with ⟨l0, l1⟩ | ⟨l0, l1⟩
    · rcases Int.lt_trichotomy n m with c | c | c
      · have := A_mono hb hn c
        omega
      · subst c
        omega
      · have a1 := A_mono hb hmn c
        have a2 := B_mono hb hmn c
        have a3 : b * n = b * m + b * (n - m) := by grind
        have a4 : b * 1 ≤ b * (n - m) := Int.mul_le_mul_of_nonneg_left (by omega) (by omega)
        rcases ab_def (t0 - t1) with h | h <;> omega
    · have z0 : t0 ≠ 0 := fun z => by
        have := A_eq_B hb hn hmn (by omega)
        obtain ⟨rfl, rfl⟩ := this
        simp only [Int.mul_zero] at d1
        omega
      have z1 : t1 ≠ 0 := fun z => by
        have := A_eq_B hb hmn hn (by omega)
        obtain ⟨rfl, rfl⟩ := this
        simp only [Int.mul_zero] at d1
        omega
      have n1 : 1 ≤ n := by
        by_cases c : n = 0
        · subst c
          rw [A_zero] at e0
          omega
        · omega
      have a4 : b * 1 ≤ b * n := Int.mul_le_mul_of_nonneg_left (by omega) (by omega)
      have a5 : 0 ≤ b * m := Int.mul_nonneg (by omega) hmn
      rcases ab_def (t0 - t1) with h | h <;> omega
  obtain ⟨n, hn, h⟩ := h
  rcases h with ⟨e0, e1⟩ | ⟨e0, e1⟩
  · exact key h0 h1 t0 t1 n hn e0 e1 hm
  · exact fun hl => key h1 h0 t1 t0 n hn e1 e0 (may_swap hm) (lo_swap hl)
/-- what to leave -/
def aim (b l g : Int) : Int × Int :=
  if l = 0 then (0, 0) else if l = B b (pw b l) then (B b (pw b l), A b (pw b l)) else if B b (pw b l) < g then (A b (pw b l), B b (pw b l)) else (A b ((g - l) / b), B b ((g - l) / b))
theorem aim_spec {b l g : Int} (hb : 1 ≤ b) (hl : 0 ≤ l) (hg : l ≤ g) (h : ¬ Lo b l g) :
    Lo b (aim b l g).1 (aim b l g).2 ∧ may b l g (l - (aim b l g).1) (g - (aim b l g).2) := by
  unfold aim
  split
  · rename_i c
    subst c
    refine ⟨⟨0, by decide, .inl ⟨A_zero.symm, by unfold B; rw [A_zero]; simp⟩⟩, ?_⟩
    have g0 : g ≠ 0 := fun z => h ⟨0, by decide, .inl ⟨A_zero.symm, by rw [z]; unfold B; rw [A_zero]; simp⟩⟩
    unfold may
    omega
  · rename_i c
    obtain ⟨p1, p2, p3⟩ := pw_spec hb (show 1 ≤ l by omega)
    have pA := A_pos hb p1
    have pB := B_gt hb p1
    generalize pw b l = n at *
    split
    · rename_i c1
      refine ⟨⟨n, by omega, .inr ⟨rfl, rfl⟩⟩, ?_⟩
      unfold may
      omega
    · rename_i c1
      have lA : A b n = l := by omega
      split
      · rename_i c2
        refine ⟨⟨n, by omega, .inl ⟨rfl, rfl⟩⟩, ?_⟩
        unfold may
        omega
      · rename_i c2
        have gB : g ≠ B b n := fun z => h ⟨n, by omega, .inl ⟨lA.symm, z⟩⟩
        have d1 : B b n = A b n + b * n := rfl
        have j0 : 0 ≤ (g - l) / b := Int.ediv_nonneg (by omega) (by omega)
        have m0 := Int.emod_nonneg (g - l) (show b ≠ 0 by omega)
        have m1 := Int.emod_lt_of_pos (g - l) (show 0 < b by omega)
        have m2 := Int.mul_ediv_add_emod (g - l) b
        have jn : (g - l) / b < n := by
          have : (g - l) < b * n := by omega
          exact Int.ediv_lt_of_lt_mul (by omega) (by rw [Int.mul_comm]; exact this)
        generalize (g - l) % b = r at *
        generalize (g - l) / b = j at *
        have a1 := A_mono hb j0 jn
        have d2 : B b j = A b j + b * j := rfl
        refine ⟨⟨j, j0, .inl ⟨rfl, rfl⟩⟩, ?_⟩
        show may b l g (l - A b j) (g - B b j)
        have gA := A_ge hb j0
        have gj := Int.mul_nonneg (show 0 ≤ b by omega) j0
        unfold may
        have ea : ab (l - A b j - (g - B b j)) < b := by
          rcases ab_def (l - A b j - (g - B b j)) with h | h <;> omega
        omega
/-- the taking that is told -/
def win (b h0 h1 : Int) : Int × Int :=
  if h0 ≤ h1 then (h0 - (aim b h0 h1).1, h1 - (aim b h0 h1).2) else (h0 - (aim b h1 h0).2, h1 - (aim b h1 h0).1)
theorem win_spec {b h0 h1 : Int} (hb : 1 ≤ b) (p0 : 0 ≤ h0) (p1 : 0 ≤ h1) (h : ¬ Lo b h0 h1) :
    may b h0 h1 (win b h0 h1).1 (win b h0 h1).2 ∧ Lo b (h0 - (win b h0 h1).1) (h1 - (win b h0 h1).2) := by
  unfold win
  split
  · rename_i c
    obtain ⟨a, m⟩ := aim_spec hb p0 c h
    refine ⟨m, ?_⟩
    show Lo b (h0 - (h0 - (aim b h0 h1).1)) (h1 - (h1 - (aim b h0 h1).2))
    rw [show h0 - (h0 - (aim b h0 h1).1) = (aim b h0 h1).1 by omega, show h1 - (h1 - (aim b h0 h1).2) = (aim b h0 h1).2 by omega]
    exact a
  · rename_i c
    obtain ⟨a, m⟩ := aim_spec hb p1 (show h1 ≤ h0 by omega) (fun z => h (lo_swap z))
    refine ⟨may_swap m, ?_⟩
    show Lo b (h0 - (h0 - (aim b h1 h0).2)) (h1 - (h1 - (aim b h1 h0).1))
    rw [show h0 - (h0 - (aim b h1 h0).2) = (aim b h1 h0).2 by omega, show h1 - (h1 - (aim b h1 h0).1) = (aim b h1 h0).1 by omega]
    exact lo_swap a
end Th
/-! rules of one's own over the layer -/
namespace TH
open PySem PySem.Spec PyProof.Rows L2
/-- small: within n bits -/
def Sm (n : Nat) (i : Int) : Prop := i.natAbs < 2 ^ n
theorem sm_mono {a b : Nat} {i : Int} (h : Sm a i) (hb : a ≤ b) : Sm b i := Nat.lt_of_lt_of_le h (Nat.pow_le_pow_right (by decide) hb)
theorem sm_mul {a b : Nat} {i j : Int} (h : Sm a i) (h' : Sm b j) : Sm (a + b) (i * j) := wide_lt h h'
theorem sm_add {a : Nat} {i j : Int} (h : Sm a i) (h' : Sm a j) : Sm (a + 1) (i + j) := by
  unfold Sm at *
  rw [Nat.pow_succ]
  omega
theorem sm_sub {a : Nat} {i j : Int} (h : Sm a i) (h' : Sm a j) : Sm (a + 1) (i - j) := by
  unfold Sm at *
  rw [Nat.pow_succ]
  omega
theorem sm_neg {a : Nat} {i : Int} (h : Sm a i) : Sm a (-i) := by
  unfold Sm at *
  omega
theorem sm_le {a : Nat} {i j : Int} (h : Sm a j) (h0 : 0 ≤ i) (h1 : i ≤ j) : Sm a i := by
  unfold Sm at *
  omega
theorem sm_abs {a : Nat} {i j : Int} (h : Sm a j) (h1 : i.natAbs ≤ j.natAbs) : Sm a i := by
  unfold Sm at *
  omega
theorem sm_lit {a : Nat} {i : Int} (h : i.natAbs < 2 ^ a) : Sm a i := h
theorem mulx {a b : Nat} {i j : Int} (h : Sm a i) (h' : Sm b j) (hab : a + b ≤ 134217728 := by decide) : CMulX i j := mulx_ok h h' hab
theorem divw {b : Nat} {i j : Int} (hj : 0 < j) (h : Sm b j) (h0 : 0 < b := by decide) (h9 : b ≤ 9000 := by decide) : CDivW i j := wide_div hj h h0 h9
theorem ifT {c : Bool} {A B : Prop} (hc : c = true) (h : A) : if c = true then A else B := by
  rw [if_pos hc]
  exact h
theorem ifF {c : Bool} {A B : Prop} (hc : c = false) (h : B) : if c = true then A else B := by
  rw [hc, if_neg Bool.false_ne_true]
  exact h
theorem if2 {c : Bool} {A B : Prop} (h1 : c = true → A) (h2 : c = false → B) : if c = true then A else B := by
  cases c with
  | true => exact ifT rfl (h1 rfl)
  | false => exact ifF rfl (h2 rfl)
theorem nd {p : Prop} [Decidable p] (h : p) : (!decide p) = false := by simp [h]
theorem nd1 {p : Prop} [Decidable p] (h : ¬ p) : (!decide p) = true := by simp [h]
theorem bt {Q : VK} {c : Bool} {H : Hp} (h : c = true) (q : Q (.bl true) H) : Q (.bl c) H := by rw [h]; exact q
theorem bf {Q : VK} {c : Bool} {H : Hp} (h : c = false) (q : Q (.bl false) H) : Q (.bl c) H := by rw [h]; exact q
theorem bq {Q : VK} {c d : Bool} {H : Hp} (h : c = d) (q : Q (.bl d) H) : Q (.bl c) H := by rw [h]; exact q
/-! isqrt -/
theorem isqrt_rt {N : Int} (h : 0 ≤ N) : ((Float64.isqrt N.toNat : Nat) : Int) = Th.rt N := by
  obtain ⟨h1, h2⟩ := Float64.isqrt_spec N.toNat
  have e : ((N.toNat : Nat) : Int) = N := Int.toNat_of_nonneg h
  have h1' := Int.ofNat_le.mpr h1
  have h2' := Int.ofNat_lt.mpr h2
  rw [e] at h1' h2'
  push_cast at h1' h2'
  exact (Th.rt_uniq (Int.natCast_nonneg _) h1' h2').symm
def rIsqrt : List V → Hp → VK → Prop := fun vs H Q => ∃ n : Int, vs = [.int n] ∧ 0 ≤ n ∧ Sm 13000 n ∧ Q (.int (Th.rt n)) H
theorem cr_isqrt {X : Cx} : CallR X (.builtin "math.isqrt") rIsqrt := by
  intro pins s σ H vs us Q I r h
  obtain ⟨n, rfl, h0, hs, q⟩ := h
  cases r with
  | cons ra rr =>
    cases rr
    obtain ⟨t, rfl⟩ := ra
    have hl : n.toNat.log2 < 13000 := by
      have e : n.toNat = n.natAbs := by omega
      rw [e]
      exact PySem.Flt.log2_lt_of (by decide) hs
    rw [← isqrt_rt h0] at q
    exact call_function_meets PySem.W.MGF.kind_isqrt PySem.W.MGF.plain_isqrt PySem.W.MGF.entry_isqrt (PySem.W.MGF.args_isqrt _) (PySem.W.mg_run_isqrt n t (by omega) (by omega) (by omega)).meets ⟨.int _, H, I.tok _, ⟨_, rfl⟩, q⟩
/-! min, max of a tuple of two ints -/
def rMinT : List V → Hp → VK → Prop := fun vs H Q => ∃ (a : Addr) (i j : Int), vs = [.ref a] ∧ H a = some (.tup [.int i, .int j]) ∧ Q (.int (min i j)) H
def rMaxT : List V → Hp → VK → Prop := fun vs H Q => ∃ (a : Addr) (i j : Int), vs = [.ref a] ∧ H a = some (.tup [.int i, .int j]) ∧ Q (.int (max i j)) H
theorem two_alike (i j : Int) : PySem.W.AlikeAll [.int i, .int j] := by
  refine ⟨fun x hx y hy => ?_, fun x hx => ?_⟩
  · rcases List.mem_cons.mp hx with rfl | hx
    · rcases List.mem_cons.mp hy with rfl | hy
      · rfl
      · rw [List.mem_singleton.mp hy]; rfl
    · rw [List.mem_singleton.mp hx]
      rcases List.mem_cons.mp hy with rfl | hy
      · rfl
      · rw [List.mem_singleton.mp hy]; rfl
  · rcases List.mem_cons.mp hx with rfl | hx
    · exact fun z => nomatch z
    · rw [List.mem_singleton.mp hx]; exact fun z => nomatch z
theorem cr_minT {X : Cx} (hc : X.calm = true) (hu : X.A.units + 64 < cLine) : CallR X (.builtin "min") rMinT := by
  intro pins s σ H vs us Q I r h
  obtain ⟨a, i, j, rfl, ha, q⟩ := h
  obtain ⟨its, rv, ht, _⟩ := I.tuple (SqT.of (K := X.K) ha)
  rw [Vals.ref1 r]
  cases rv with
  | cons r1 rr =>
    cases rr with
    | cons r2 rr =>
      cases rr
      obtain ⟨t1, rfl⟩ := r1
      obtain ⟨t2, rfl⟩ := r2
      refine PySem.W.min_tuple_data (x := .int i) (xs := [.int j]) (as := []) (I.ok.hd hc) ht (.cons (.int i t1) (.cons (.int j t2) .nil)) (two_alike i j) ?_ fun k v h' tk bs hv hr hk => ?_
      · have : PyData.depthAll [PyData.int i, PyData.int j] ≤ 1 := by
          simp [PyData.depthAll, PyData.depth]
        omega
      · rw [show [PyData.int j] = [j].map PyData.int from rfl, PySem.W.minD_ints] at hr
        cases hr
        exact ⟨.int _, H, I.kept hk, ⟨_, rfl⟩, q⟩
theorem cr_maxT {X : Cx} (hc : X.calm = true) (hu : X.A.units + 64 < cLine) : CallR X (.builtin "max") rMaxT := by
  intro pins s σ H vs us Q I r h
  obtain ⟨a, i, j, rfl, ha, q⟩ := h
  obtain ⟨its, rv, ht, _⟩ := I.tuple (SqT.of (K := X.K) ha)
  rw [Vals.ref1 r]
  cases rv with
  | cons r1 rr =>
    cases rr with
    | cons r2 rr =>
      cases rr
      obtain ⟨t1, rfl⟩ := r1
      obtain ⟨t2, rfl⟩ := r2
      refine PySem.W.max_tuple_data (x := .int i) (xs := [.int j]) (as := []) (I.ok.hd hc) ht (.cons (.int i t1) (.cons (.int j t2) .nil)) (two_alike i j) ?_ fun k v h' tk bs hv hr hk => ?_
      · have : PyData.depthAll [PyData.int i, PyData.int j] ≤ 1 := by
          simp [PyData.depthAll, PyData.depth]
        omega
      · rw [show [PyData.int j] = [j].map PyData.int from rfl, PySem.W.maxD_ints] at hr
        cases hr
        exact ⟨.int _, H, I.kept hk, ⟨_, rfl⟩, q⟩
/-! == of two pairs of ints -/
def rEqP : R2 := fun x y H Q => ∃ (a b : Addr) (i j k l : Int), x = .ref a ∧ y = .ref b ∧ H a = some (.tup [.int i, .int j]) ∧ H b = some (.tup [.int k, .int l]) ∧ Q (.bl (decide (i = k ∧ j = l))) H
def rNeP : R2 := fun x y H Q => ∃ (a b : Addr) (i j k l : Int), x = .ref a ∧ y = .ref b ∧ H a = some (.tup [.int i, .int j]) ∧ H b = some (.tup [.int k, .int l]) ∧ Q (.bl (!decide (i = k ∧ j = l))) H
theorem pair_eqv (i j k l : Int) : PyData.eqv (.tuple [.int i, .int j]) (.tuple [.int k, .int l]) = decide (i = k ∧ j = l) := by
  simp [PyData.eqv, PyData.eqvAll]
  rfl
theorem pair_dp {K : PySem.W.Frag} {H : Hp} {a : Addr} {i j : Int} (h : H a = some (.tup [.int i, .int j])) : Dp K H (.ref a) (.tuple [.int i, .int j]) := .tup (SqT.of h) (.cons (.int i) (.cons (.int j) .nil))
theorem pair_sh (i j : Int) : SeqAt.shaped (.tuple [.int i, .int j]) = true := by
  unfold SeqAt.shaped
  simp [PyData.canLay0, PyData.canLayAll0, PyData.depth, PyData.depthAll]
theorem op_eqP {X : Cx} (hu : X.A.units + 64 < cLine) : OpR X (compareOp .Eq) rEqP := by
  intro pins s σ H x y v u Q I rx ry h
  obtain ⟨a, b, i, j, k, l, rfl, rfl, ha, hb, q⟩ := h
  exact op_eqD hu pins s σ H _ _ v u Q I rx ry ⟨_, _, pair_dp ha, pair_dp hb, pair_sh i j, pair_sh k l, by rw [pair_eqv]; exact q⟩
theorem op_neP {X : Cx} (hu : X.A.units + 64 < cLine) : OpR X (compareOp .NotEq) rNeP := by
  intro pins s σ H x y v u Q I rx ry h
  obtain ⟨a, b, i, j, k, l, rfl, rfl, ha, hb, q⟩ := h
  exact op_neD hu pins s σ H _ _ v u Q I rx ry ⟨_, _, pair_dp ha, pair_dp hb, pair_sh i j, pair_sh k l, by rw [pair_eqv]; exact q⟩
/-! a place of a pair -/
theorem at0 {i j : V} : atI [i, j] 0 = some i := rfl
theorem at1 {i j : V} : atI [i, j] 1 = some j := rfl
/-! isinstance by a built-in class -/
def rIsB : List V → Hp → VK → Prop := fun vs H Q => ∃ (x : V) (S T : String) (b : Bool), vs = [x, .ty T] ∧
  ((∃ i, x = .int i) ∧ S = "int" ∨ (∃ c, x = .bl c) ∧ S = "bool" ∨ (∃ p xs, x = .ref p ∧ H p = some (.tup xs)) ∧ S = "tuple") ∧ kitB S T = some b ∧ Q (.bl b) H
theorem cr_isB {X : Cx} : CallR X (.builtin "isinstance") rIsB := by
  intro pins s σ H vs us Q I r h
  obtain ⟨x, S, T, b, rfl, hx, hk, q⟩ := h
  refine call_isi pins s σ H _ us Q I r ⟨x, .ty T, .type S, .type T, b, rfl, .ty T, ?_, kit_ty hk, q⟩
  rcases hx with ⟨⟨i, rfl⟩, rfl⟩ | ⟨⟨c, rfl⟩, rfl⟩ | ⟨⟨p, xs, rfl, hp⟩, rfl⟩
  · exact .base (.int i)
  · exact .base (.bl c)
  · exact .base (.tup hp)
theorem kb_ii : kitB "int" "int" = some true := by decide +kernel
theorem kb_ib : kitB "int" "bool" = some false := by decide +kernel
theorem kb_bb : kitB "bool" "bool" = some true := by decide +kernel
theorem kb_tt : kitB "tuple" "tuple" = some true := by decide +kernel
/-! places, cells -/
theorem at_in {xs : List V} {i : Int} (h0 : 0 ≤ i) (h : i < xs.length) : ∃ v, atI xs i = some v ∧ v ∈ xs := by
  obtain ⟨j, rfl⟩ : ∃ j : Nat, i = j := ⟨i.toNat, by omega⟩
  have hj : j < xs.length := by omega
  exact ⟨xs[j], atI_nat (List.getElem?_eq_getElem hj), List.getElem_mem hj⟩
theorem at_cell {ns : List Int} {k : Int} (h0 : 0 ≤ k) (h : k < (ns.map V.int).length) : atI (ns.map V.int) k = some (.int (ns.getD k.toNat 0)) := by
  obtain ⟨j, rfl⟩ : ∃ j : Nat, k = j := ⟨k.toNat, by omega⟩
  rw [List.length_map] at h
  exact atI_cell (by omega)
theorem cell_out {ns : List Int} {k : Int} (h : ¬ k < (ns.map V.int).length) : ns.getD k.toNat 0 = 0 := by
  rw [List.length_map] at h
  rw [List.getD_eq_getElem?_getD, List.getElem?_eq_none (by omega)]
  rfl
def CellsSm (ns : List Int) : Prop := ∀ z ∈ ns, Sm 1048577 z
theorem sm_cell {ns : List Int} (h : CellsSm ns) (k : Nat) : Sm 1048577 (ns.getD k 0) := by
  rw [List.getD_eq_getElem?_getD]
  cases e : ns[k]? with
  | none => exact sm_mono (sm_lit (a := 1) (by decide)) (by decide)
  | some z => exact h z (List.mem_of_getElem? e)
theorem sm_bits {z : Int} (h : Builtin.Int.intBits z ≤ 1048576) : Sm 1048577 z := by
  have h1 : z.natAbs < 2 ^ (z.natAbs.log2 + 1) := Nat.lt_log2_self
  have h2 : z.natAbs.log2 ≤ 1048576 := by
    unfold Builtin.Int.intBits at h
    split at h
    · rename_i c
      have e : z = 0 := by simpa using c
      rw [e]
      decide
    · omega
  exact Nat.lt_of_lt_of_le h1 (Nat.pow_le_pow_right (by decide) (by omega))
theorem p18 : (10 : Int) ^ (18 : Int).toNat = 1000000000000000000 := by decide
theorem p40 : (10 : Int) ^ (40 : Int).toNat = 10000000000000000000000000000000000000000 := by decide
abbrev M18 : Int := 1000000000000000000
abbrev M40 : Int := 10000000000000000000000000000000000000000
theorem sm_m40 {z : Int} (h0 : 0 ≤ z) (h1 : z ≤ M40) : Sm 134 z := by
  unfold Sm M40 at *
  omega
theorem pow_ok {j : Int} (h0 : 0 ≤ j) (h : j ≤ 1000) : CPow 10 j := ⟨h0, by omega, by decide⟩
theorem in_two {k i j : Int} : inV (.int k) [.int i, .int j] = decide (k = i ∨ k = j) := by
  have e : inV (.int k) [.int i, .int j] = ((i == k) || ((j == k) || false)) := rfl
  rw [e]
  by_cases c1 : i = k
  · subst c1; simp
  · by_cases c2 : j = k
    · subst c2; simp
    · have h1 : ¬ k = i := fun h => c1 h.symm
      have h2 : ¬ k = j := fun h => c2 h.symm
      simp [c1, c2, h1, h2]
open Evl in
theorem ex_new {H : Hp} {p : Addr} {o : HO} (h : H p = none) : Ex H (upd H p o) := Ex.new h
/-! the script's cut, the steps over it -/
theorem cut63 {ns : List Int} (h : ns.length ≤ 63) : cutV (ns.map V.int) none (some 63) = ns.map V.int := by
  unfold cutV
  rw [HT.sIx_none, List.drop_zero, show (some 63 : Option Int) = some ((63 : Nat) : Int) from rfl, HT.sIx_nat, Nat.sub_zero, List.take_of_length_le]
  rw [List.length_map]
  omega
def rgOk (l d : Nat) : Bool := Builtin.Range.small 0 (l : Int) (1 + (l : Int) / (d : Int)) && decide (0 ≤ Builtin.Range.rangeSize 0 (l : Int) (1 + (l : Int) / (d : Int))) && decide (Builtin.Range.rangeSize 0 (l : Int) (1 + (l : Int) / (d : Int)) ≤ 63)
theorem rg_all : ∀ l : Fin 64, rgOk l 5 = true ∧ rgOk l 6 = true ∧ rgOk l 8 = true := by decide +kernel
theorem rg_of {l d : Nat} (h : l ≤ 63) (hd : 5 ≤ d) (k : rgOk l d = true) : ∃ n : Nat, n ≤ 63 ∧ RgC 0 (l : Int) (1 + (l : Int) / (d : Int)) n := by
  unfold rgOk at k
  rw [Bool.and_eq_true, Bool.and_eq_true, decide_eq_true_eq, decide_eq_true_eq] at k
  obtain ⟨⟨h1, h2⟩, h3⟩ := k
  have hp : 0 ≤ (l : Int) / (d : Int) := Int.ediv_nonneg (by omega) (by omega)
  have hq : (l : Int) / (d : Int) ≤ l := Int.ediv_le_self _ (by omega)
  exact ⟨(Builtin.Range.rangeSize 0 (l : Int) (1 + (l : Int) / (d : Int))).toNat, by omega, by omega, by omega, h1, by omega⟩
theorem step_le {l d : Nat} (h : l ≤ 63) (hd : 5 ≤ d) : 1 ≤ 1 + (l : Int) / (d : Int) ∧ 1 + (l : Int) / (d : Int) ≤ 13 := by
  have hp : 0 ≤ (l : Int) / (d : Int) := Int.ediv_nonneg (by omega) (by omega)
  have : (l : Int) / (d : Int) ≤ 12 := by
    have h1 : (l : Int) / (d : Int) < 13 := Int.ediv_lt_of_lt_mul (by omega) (by omega)
    omega
  omega
theorem place_le {i n : Nat} {c : Int} (hi : i < n) (hn : n ≤ 63) (h1 : 1 ≤ c) (h2 : c ≤ 13) : 0 ≤ 0 + (i : Int) * c ∧ 0 + (i : Int) * c ≤ 819 := by
  have a := Int.mul_nonneg (show (0 : Int) ≤ i by omega) (show 0 ≤ c by omega)
  have b := Int.mul_le_mul (show (i : Int) ≤ 63 by omega) h2 (by omega) (by decide)
  omega
theorem sm_mod18 (c : Int) : Sm 100 (c % 10 ^ (18 : Int).toNat) := by
  have i1 := Int.emod_nonneg c (show M18 ≠ 0 by decide)
  have i2 := Int.emod_lt_of_pos c (show 0 < M18 by decide)
  rw [p18]
  unfold Sm
  omega
theorem p18_pos : (0 : Int) < 10 ^ (18 : Int).toNat := by rw [p18]; decide
/-! objects, options -/
def optV : Option Int → V
  | some n => .int n
  | none => .non
theorem sm_ab {n : Nat} {i : Int} (h : Sm n i) : Sm n (Th.ab i) := by
  rcases Th.ab_def i with ⟨e, _⟩ | ⟨e, _⟩
  · rw [e]; exact h
  · rw [e]; exact sm_neg h
/-- a made object, its attributes stored -/
theorem ex_made {H : Hp} {x dx C : Addr} {fs : List (Str × V)} (nx : H x = none) (nd : H dx = none) (ne : dx ≠ x) : Evl.Ex H (upd (upd (upd H dx (.own x)) x (.ins C dx [])) x (.ins C dx fs)) := fun a o h => by
  rw [upd_ne (ne_of_none h nx), upd_ne (ne_of_none h nx), upd_ne (ne_of_none h nd)]
  exact h
theorem lk1 {k : Str} {v : V} : List.lookup k [(k, v)] = some v := by
  have e : (k == k) = true := beq_self_eq_true k
  simp only [List.lookup, e]
theorem lk0 {k g : Str} {v : V} (h : (k == g) = false) : List.lookup k [(g, v)] = none := by
  simp only [List.lookup, h]
/-! isinstance by an own class -/
structure InK (K : PySem.W.Frag) (C : Addr) : Prop where
  cl : Cls K C
  ha : PySem.W.findIn K (.ref C) "__class__" = some (some (.builtin "object.__class__"))
  hn : PySem.W.specialIn K (.builtin "object.__class__") "__get__" = some (some (.builtin "getset_descriptor.__get__"))
  htk : PySem.W.takesIn K (.builtin "object.__class__") = some true
  hm : PySem.W.mroIn K C (.type "object") = some true
def rIsO (K : PySem.W.Frag) : List V → Hp → VK → Prop := fun vs H Q => ∃ (a C dx : Addr) (fs : List (Str × V)) (D : Addr) (b : Bool), vs = [.ref a, .ref D] ∧ H a = some (.ins C dx fs) ∧ InK K C ∧ PySem.W.kitOne K (.ref C) (.ref D) = some b ∧ Q (.bl b) H
theorem cr_isO {X : Cx} : CallR X (.builtin "isinstance") (rIsO X.K) := by
  intro pins s σ H vs us Q I r h
  obtain ⟨a, C, dx, fs, D, b, rfl, ha, c, hk, q⟩ := h
  exact call_isi pins s σ H _ us Q I r ⟨.ref a, .ref D, .ref C, .ref D, b, rfl, .own D, .base (.ins ha c.cl c.ha c.hn c.htk c.hm), hk, q⟩
/-! t[::-1] of a pair -/
section
variable {prog : Program} {w : World} {A : Around} {E : Value → Shared → Prop} {s : Shared}
theorem sliceApplied_rev2 {sl : Addr} {vs : Value} {Q : Int × Int × Nat → Shared → Prop} (hs : s.heap.IsSliceOf sl .none .none vs) (ps : IsPart vs (some (-1)))
    (h : Q (1, -1, 2) s) : wpAny (model prog w) A (Builtin.Slice.sliceApplied (.ref sl) (pure 2)) Q E s := by
  obtain ⟨os, hos, hcs, hds⟩ := id hs
  unfold Builtin.Slice.sliceApplied Builtin.Slice.sliceFields
  refine wpAny_bind (wpAny_bind (wpAny_field hos hds (x := .none) rfl (wpAny_bind (wpAny_field hos hds (x := .none) rfl (wpAny_bind (wpAny_field hos hds (x := vs) rfl (wpAny_pure ?_)))))))
  refine wpAny_bind (HT.slicePart_ ps ?_)
  show wpAny _ _ (if ((-1 : Int) == 0) = true then _ else _) _ _ s
  rw [if_neg (by decide)]
  refine wpAny_bind (HT.slicePart_ .none (wpAny_bind (HT.slicePart_ .none (wpAny_bind (wpAny_pure ?_)))))
  exact wpAny_pure h
theorem getItem_rev2 {t sl : Addr} {u1 u2 vs : Value} {Q : Value → Shared → Prop} (ht : IsTup s.heap t [u1, u2].toArray) (hs : s.heap.IsSliceOf sl .none .none vs) (ps : IsPart vs (some (-1)))
    (h : Q (.ref s.heap.objs.size) { s with heap := s.heap.push { cls := .type "tuple", data := .seq [u2, u1].toArray } }) : wpAny (model prog w) A (getItem (.ref t) (.ref sl)) Q E s := by
  have htake : sizeOk (.seq [u2, u1].toArray) := by
    show 2 ≤ sizeLine
    decide
  obtain ⟨os, hos, hcs, hds⟩ := id hs
  have hTs : s.TypeIs (.ref sl) "slice" := ⟨os, hos, hcs⟩
  unfold getItem
  try with_reducible refine wpAny_holding ?_
  first | refine wpAny_bind (wpAny_pure ?_) | skip
  refine wpAny_bind (wpAny_sequenceKey ht.typeIs (by decide) ?_)
  refine wpAny_bind (wpAny_callSpecial?_slot (name := Str.ofString "__getitem__") ht.typeIs PyProof.Rows.slot_tuple_getitem
    (wpAny_call_entry PyProof.Rows.slot_tuple_getitem ht.typeIs PyProof.Rows.entry_tuple_getitem ?_ (PyProof.Rows.args_tuple_getitem _ _)))
  show wpAny _ _ (Builtin.Tuple.tupleItemsOf (.ref t) >>= _) _ _ s
  refine wpAny_bind (PyProof.Rows.tupleItemsOf_ ht ?_)
  refine wpAny_bind (wpAny_typeOf hTs ?_)
  rw [if_pos (by decide)]
  refine wpAny_bind (sliceApplied_rev2 hs ps ?_)
  show wpAny _ _ (if ((1 : Int) == 0 && (-1 : Int) == 1 && (2 : Nat) == 2) = true then _ else _) _ _ s
  rw [if_neg (by decide)]
  first
    | exact wpAny_bind (m := Builtin.Tuple.tupleExact _) (wpAny_newObj_type (wpAny_pure ⟨_, rfl, wpAny_pure h⟩) htake)
    | exact wpAny_bind (m := Builtin.Tuple.tupleExact _) (wpAny_newObj_type (wpAny_bind (wpAny_pure (wpAny_pure ⟨_, rfl, wpAny_pure h⟩))) htake)
    | exact wpAny_bind (wpAny_bind (m := Builtin.Tuple.tupleExact _) (wpAny_newObj_type (wpAny_pure (wpAny_pure ⟨_, rfl, wpAny_pure h⟩)) htake))
    | exact wpAny_bind (wpAny_bind (m := Builtin.Tuple.tupleExact _) (wpAny_newObj_type (wpAny_pure ⟨_, rfl, wpAny_pure h⟩) htake))
end
def tRevT (te : TE) : TE := fun σ H Q => te σ H fun x H1 => ∃ a i j, x = .ref a ∧ H1 a = some (.tup [i, j]) ∧ ∀ p, H1 p = none → Q (.ref p) (upd H1 p (.tup [j, i]))
theorem pe_revT {X : Cx} {e : Expr} {te : TE} {k : Nat} {p1 p2 p3 pos : Pos} (he : PE X e te) : PE X (.Subscript e (.Slice none none (some (.UnaryOp .USub (.Constant (.int 1) k p1) p2)) p3) pos) (tRevT te) := by
  refine ⟨fun pins s σ H Q I h => ?_⟩
  refine Subscript_ (thn (he.run pins s σ H _ I h) fun v s1 ⟨x, H1, I1, r1, q1⟩ => ?_)
  obtain ⟨a, i, j, ex, hx, q⟩ := q1
  subst ex
  cases r1
  have hst : PO X (some (.UnaryOp .USub (.Constant (.int 1) k p1) p2)) (tPart (tUn (rU fun i => .int (-i)) (tC (.int 1)))) := po_some (pe_un un_neg pe_int)
  refine wpAny_Slice (thn (po_none.run pins s1 σ H1 (fun o H2 => o = none ∧ H2 = H1) I1 ⟨rfl, rfl⟩) fun vl s2 ⟨l, H2, I2, pl, el, e2⟩ => ?_)
  subst el e2
  refine thn (po_none.run pins s2 σ H2 (fun o H3 => o = none ∧ H3 = H2) I2 ⟨rfl, rfl⟩) fun vu s3 ⟨u, H3, I3, pu, eu, e3⟩ => ?_
  subst eu e3
  refine thn (hst.run pins s3 σ H3 (fun o H4 => o = some (-1) ∧ H4 = H3) I3 ⟨1, rfl, -1, rfl, rfl, rfl⟩) fun vs s4 ⟨o, H4, I4, ps, eo, e4⟩ => ?_
  subst eo e4
  have I5 : Inv X pins σ H4 { s4 with heap := s4.heap.push { cls := .type "slice", data := .fields #[vl, vu, vs] } } := I4.kept (t' := s4.toks) fun b ob q => Heap.get?_push_of_some _ q
  obtain ⟨its, r, ht, hz⟩ := I5.tuple (SqT.of (K := X.K) hx)
  cases pl
  cases pu
  cases r with
  | cons r1 rr =>
    cases rr with
    | cons r2 rr =>
      cases rr
      show wpAny (model X.prog X.w) X.A (subscriptTail e (.Slice none none (some (.UnaryOp .USub (.Constant (.int 1) k p1) p2)) p3) (.ref a) (.ref s4.heap.objs.size)) (EP X pins σ Q) X.xe { s4 with heap := s4.heap.push { cls := .type "slice", data := .fields #[.none, .none, vs] } }
      refine tail_any (ops := [.ref a, .ref s4.heap.objs.size]) ht.typeIs (PyProof.Rows.slot_tuple_getitem.lookup) ?_ (by with_unfolding_all rfl)
      refine getItem_rev2 ht (Heap.IsSliceOf.new _ _ _ vs) ps ?_
      refine ⟨.ref _, _, I5.laid (t' := s4.toks) (o := .tup [j, i]) (fun b ob q => Heap.get?_push_of_some _ q) (Nat.le_refl _) ?_, rfl, q _ (I5.hok.fresh (Nat.le_refl _))⟩
      exact ⟨by show 2 ≤ sizeLine; decide, _, .cons r2 (.cons r1 .nil), IsTup.new _ _⟩
/-! (a, b) of two ints: a pair, in some heap that keeps what stood -/
def tPair (ta tb : TE) : TE := fun σ H Q => tCons ta (tCons tb tNil) σ H fun vs H2 => ∃ i j : Int, vs = [.int i, .int j] ∧ ∀ p H', Evl.Ex H2 H' → H' p = some (.tup [.int i, .int j]) → Q (.ref p) H'
theorem pe_pair {X : Cx} {a b : Expr} {ta tb : TE} {x1} {pos : Pos} (ha : PE X a ta) (hb : PE X b tb) (hs : starEach [a, b] X.env = (false, eval a X.env) :: starEach [b] X.env := by rfl) (hs2 : starEach [b] X.env = (false, eval b X.env) :: starEach [] X.env := by rfl) :
    PE X (.Tuple [a, b] x1 pos) (tPair ta tb) := by
  refine ⟨fun pins s σ H Q I hq => ?_⟩
  refine wpAny_Tuple_spliced (thn ((pa_cons ha (pa_cons hb pa_nil hs2) hs).run pos pins s σ H _ I hq) fun us s1 ⟨xs, H1, I1, r, i, j, e, q⟩ => ?_)
  subst e
  have hf : H1 s1.heap.objs.size = none := I1.hok.fresh (Nat.le_refl _)
  refine ⟨by rw [← r.length]; show 2 ≤ sizeLine; decide, ?_⟩
  refine ⟨.ref s1.heap.objs.size, upd H1 s1.heap.objs.size (.tup [.int i, .int j]), I1.laid (t' := s1.toks) (fun b u e => Heap.get?_push_of_some _ e) (Nat.le_refl _) ?_, rfl, q _ _ (ex_new hf) upd_same⟩
  exact ⟨by show 2 ≤ sizeLine; decide, us, r, ⟨_, Heap.get?_push_size _ rfl, rfl, _, rfl⟩⟩
/-- what is a pair of ints of n bits -/
def PrT (H : Hp) (x : V) : Prop := ∃ (q : Addr) (u v : Int), x = .ref q ∧ H q = some (.tup [.int u, .int v])
theorem prt_mono {H H' : Hp} {x : V} (e : Evl.Ex H H') (h : PrT H x) : PrT H' x := by
  obtain ⟨q, u, v, rfl, h⟩ := h
  exact ⟨q, u, v, rfl, e _ _ h⟩
theorem rep_snoc (n : Nat) (x : V) : List.replicate n x ++ [x] = List.replicate (n + 1) x := by
  rw [List.replicate_succ']
theorem rep_map (n : Nat) (b : Bool) : List.replicate n (V.bl b) = (List.replicate n b).map V.bl := by
  rw [List.map_replicate]
theorem rep_all (n : Nat) : (List.replicate n true).all id = true := by
  rw [List.all_eq_true]
  intro x hx
  rw [List.mem_replicate] at hx
  rw [hx.2]
  rfl
theorem nof_bl {b i j : Int} (hb : 1 ≤ b) : (decide ((max i j - min i j) % b = 0) && decide (Th.A b ((max i j - min i j) / b) = min i j ∧ Th.B b ((max i j - min i j) / b) = max i j)) = (Th.nof b i j).isSome := by
  have e : Th.ab (i - j) = max i j - min i j := by
    rcases Th.ab_def (i - j) with h | h <;> omega
  unfold Th.nof
  rw [e]
  by_cases c : Th.A b ((max i j - min i j) / b) = min i j ∧ Th.B b ((max i j - min i j) / b) = max i j
  · rw [if_pos c]
    have d : Th.B b ((max i j - min i j) / b) = Th.A b ((max i j - min i j) / b) + b * ((max i j - min i j) / b) := rfl
    have m := Int.mul_ediv_add_emod (max i j - min i j) b
    have z : (max i j - min i j) % b = 0 := by omega
    simp [z, c]
  · rw [if_neg c]
    simp [c]
theorem shows_lost {b i j n : Int} (hb : 1 ≤ b) : decide (Th.nof b i j = some n) = (decide (0 ≤ n) && decide (Th.A b n = min i j ∧ Th.B b n = max i j)) := by
  by_cases c : Th.nof b i j = some n
  · obtain ⟨h0, h1, h2⟩ := Th.nof_some hb c
    simp [c, h0, h1, h2]
  · by_cases h0 : 0 ≤ n
    · have : ¬ (Th.A b n = min i j ∧ Th.B b n = max i j) := fun h => c (Th.nof_of hb h0 h.1 h.2)
      rw [decide_eq_false c, decide_eq_true h0, decide_eq_false this]
      rfl
    · rw [decide_eq_false c, decide_eq_false h0]
      rfl
theorem p60 : (10 : Int) ^ (60 : Int).toNat = 1000000000000000000000000000000000000000000000000000000000000 := by decide
theorem p60_pos : (0 : Int) < 10 ^ (60 : Int).toNat := by rw [p60]; decide
theorem sm_p60 {c : Int} (h : Th.ab c < 10 ^ (60 : Int).toNat) : Sm 300 c := by
  rw [p60] at h
  refine sm_mono (a := 200) ?_ (by decide)
  unfold Sm
  rcases Th.ab_def c with ⟨e, _⟩ | ⟨e, _⟩ <;> omega
theorem sm_mod60 (c : Int) : Sm 300 (c % 10 ^ (60 : Int).toNat) := by
  refine sm_p60 ?_
  have h1 := Int.emod_nonneg c (show (10 : Int) ^ (60 : Int).toNat ≠ 0 by rw [p60]; decide)
  have h2 := Int.emod_lt_of_pos c p60_pos
  rcases Th.ab_def (c % 10 ^ (60 : Int).toNat) with ⟨e, _⟩ | ⟨e, _⟩ <;> omega
/-! displays, in some heap that keeps what stood -/
def tTupE (t : TA) : TE := fun σ H Q => t σ H fun xs H1 => xs.length ≤ sizeLine ∧ ∀ p H', Evl.Ex H1 H' → H' p = some (.tup xs) → Q (.ref p) H'
def tLstE (t : TA) : TE := fun σ H Q => t σ H fun xs H1 => xs.length ≤ sizeLine ∧ ∀ p H', Evl.Ex H1 H' → H' p = some (.lst xs) → H1 p = none → Q (.ref p) H'
theorem pe_tupE {X : Cx} {es : List Expr} {t : TA} {x1} {pos : Pos} (h : PA X es t) : PE X (.Tuple es x1 pos) (tTupE t) := by
  refine ⟨fun pins s σ H Q I hq => ?_⟩
  refine wpAny_Tuple_spliced (thn (h.run pos pins s σ H _ I hq) fun us s1 ⟨xs, H1, I1, r, z, q⟩ => ⟨by rw [← r.length]; exact z, ?_⟩)
  have hf : H1 s1.heap.objs.size = none := I1.hok.fresh (Nat.le_refl _)
  refine ⟨.ref s1.heap.objs.size, upd H1 s1.heap.objs.size (.tup xs), I1.laid (t' := s1.toks) (fun b u e => Heap.get?_push_of_some _ e) (Nat.le_refl _) ?_, rfl, q _ _ (ex_new hf) upd_same⟩
  exact ⟨z, us, r, ⟨_, Heap.get?_push_size _ rfl, rfl, _, rfl⟩⟩
theorem pe_lstE {X : Cx} {es : List Expr} {t : TA} {pos : Pos} (h : PA X es t) : PE X (.List es pos) (tLstE t) := by
  refine ⟨fun pins s σ H Q I hq => ?_⟩
  refine wpAny_List_spliced (thn (h.run pos pins s σ H _ I hq) fun us s1 ⟨xs, H1, I1, r, z, q⟩ => ⟨by rw [← r.length]; exact z, ?_⟩)
  have hf : H1 s1.heap.objs.size = none := I1.hok.fresh (Nat.le_refl _)
  refine ⟨.ref s1.heap.objs.size, upd H1 s1.heap.objs.size (.lst xs), I1.laid (t' := s1.toks) (fun b u e => Heap.get?_push_of_some _ e) (Nat.le_refl _) ?_, rfl, q _ _ (ex_new hf) upd_same hf⟩
  exact ⟨z, us, 0, r, Heap.get?_push_size _ rfl⟩
/-! calls of a def that raises, within a try -/
structure CalX (P : Program) (w : World) (K : PySem.W.Frag) (mg : Str → Option Value) (base : Heap) (k : Nat) (x : Str) (ps : List Str) (sp : Sp) : Prop where
  ex : ∃ (f : Addr) (fd : FuncData), FnOk P w K mg base (L2.CX P w) k f fd ps sp ∧ mg x = some (.ref f) ∧ PySem.W.keepIn K (.ref f) = true ∧ Binds K fd ps []
theorem pe_cx {X : Cx} {k j : Nat} {x : Str} {ps : List Str} {sp : Sp} {W : WX} {p pos : Pos} {e : Expr} {es : List Expr} {t : TA} (c : CalX X.prog X.w X.K X.mg X.base k x ps sp) (hr : Room j X.A) (hk : k ≤ j) (hg : Gl X x) (tk : Takes X W) (ha : PA X (e :: es) t)
    (hdb : (x == ("__debug__" : Str)) = false := by decide) (he : starEach (e :: es) X.env = (false, eval e X.env) :: starEach es X.env := by rfl) (hpl : (backTo pos (starEach es X.env)).any (·.1) = false := by rfl) :
    PE X (.Call (.Name x p) (e :: es) [] pos) (tCallS sp (WE W) t) := by
  obtain ⟨f, fd, F, hm, kp, b⟩ := c.ex
  exact pe_callS F (hr.mono hk) hg hm kp b (fun σ => passAt tk σ) ha hdb he hpl
theorem pss_given {X : Cx} {sts : List Stmt} {t : TS} {G : Prop} (h : G → PSs X sts t) : PSs X sts (fun D σ H => G ∧ t D σ H) := ⟨fun pins s σ H D I ⟨g, q⟩ => (h g).run pins s σ H D I q⟩
/-! o.m(..), o of one of two classes -/
def tMeth2 (C1 C2 : Addr) (m : Str) (sp1 sp2 : Sp) (ta : TE) (t : TA) : TE := fun σ H Q => ta σ H fun x H1 =>
  (∃ a dx fs, x = .ref a ∧ H1 a = some (.ins C1 dx fs) ∧ fs.lookup m = none ∧ t σ H1 fun vs H2 => sp1 (x :: (vs ++ [])) H2 Q E0) ∨
  (∃ a dx fs, x = .ref a ∧ H1 a = some (.ins C2 dx fs) ∧ fs.lookup m = none ∧ t σ H1 fun vs H2 => sp2 (x :: (vs ++ [])) H2 Q E0)
theorem pe_mt2 {X : Cx} {k1 k2 j : Nat} {C1 C2 : Addr} {m : Str} {sp1 sp2 : Sp} {apos pos : Pos} {e o : Expr} {es : List Expr} {ta : TE} {t : TA} {pl : Sem Bool} (c1 : C8.Met X.prog X.w X.K X.mg X.base k1 C1 m sp1 []) (c2 : C8.Met X.prog X.w X.K X.mg X.base k2 C2 m sp2 [])
    (hr : Room j X.A) (hk1 : k1 ≤ j) (hk2 : k2 ≤ j) (he : PE X o ta) (ha : PA X (e :: es) t)
    (hst : starEach (e :: es) X.env = (false, eval e X.env) :: starEach es X.env := by rfl) (hpl : (backTo pos (starEach es X.env)).any (·.1) = false := by rfl)
    (ht : eval (.Call (.Attribute o m apos) (e :: es) [] pos) X.env = (do
      let ov ← eval o X.env
      standAt apos.atName
      let (f, first) ← holding [ov] (getMethod ov m pl)
      callWith pos f first (backTo pos (starEach (e :: es) X.env)) (backToKw pos (keywordEach [] X.env))) := by rfl) :
    PE X (.Call (.Attribute o m apos) (e :: es) [] pos) (tMeth2 C1 C2 m sp1 sp2 ta t) := by
  refine ⟨fun pins s σ H Q I h => ?_⟩
  refine PySem.W.methodCall_KW (pl := pl) (thn (he.run pins s σ H _ I h) fun u s1 ⟨x, H1, I1, rx, q⟩ => ?_) ht
  rcases q with ⟨a, dx, fs, ex, ea, l, q⟩ | ⟨a, dx, fs, ex, ea, l, q⟩
  · obtain ⟨f, fd, ps, ds, hc, hm, F, b, d⟩ := c1.ex
    subst ex
    obtain rfl : u = Value.ref a := rx
    refine getmeth_ok I1 ea hc hm l ?_
    refine PySem.W.callWith_K (first := [.ref a]) (h₀ := X.base) I.ok.mod.kin hm.kp (thn (ha.run pos pins s1 σ H1 _ I1 q) fun us s2 ⟨vs, H2, I2, r, q2⟩ => ⟨I2.kIn, ?_⟩) hst hpl
    exact run_fn (us := .ref a :: us) (vs := .ref a :: vs) F (hr.mono hk1) b d pass0 I2 (.cons rfl r) q2
  · obtain ⟨f, fd, ps, ds, hc, hm, F, b, d⟩ := c2.ex
    subst ex
    obtain rfl : u = Value.ref a := rx
    refine getmeth_ok I1 ea hc hm l ?_
    refine PySem.W.callWith_K (first := [.ref a]) (h₀ := X.base) I.ok.mod.kin hm.kp (thn (ha.run pos pins s1 σ H1 _ I1 q) fun us s2 ⟨vs, H2, I2, r, q2⟩ => ⟨I2.kIn, ?_⟩) hst hpl
    exact run_fn (us := .ref a :: us) (vs := .ref a :: vs) F (hr.mono hk2) b d pass0 I2 (.cons rfl r) q2
end TH

namespace TH
open PySem PySem.Spec PyProof.Rows L2
section text
def top (i : Nat) : Stmt := PySem.Challenge.pw_twoheaps_k01_whole_told.main.body.getD i (.Pass ⟨0, 0, 0, 0⟩)
structure Cs where
  c_Lost : Addr
  c_Won : Addr
  c_Answer : Addr
  c_HeapError : Addr
  c_BadTaking : Addr
structure Txt (K : PySem.W.Frag) (mg : Str → Option Value) (cs : Cs) : Prop where
  n_abs : mg "abs" = none
  n_bool : mg "bool" = none
  n_int : mg "int" = none
  n_isinstance : mg "isinstance" = none
  isqrt : mg "isqrt" = some (.builtin "math.isqrt")
  n_len : mg "len" = none
  n_max : mg "max" = none
  n_min : mg "min" = none
  n_range : mg "range" = none
  n_tuple : mg "tuple" = none
  g_Lost : mg "Lost" = some (.ref cs.c_Lost)
  cl_Lost : Cls K cs.c_Lost
  no_number : NoAttr K cs.c_Lost "number"
  in_Lost : InK K cs.c_Lost
  no_shows_Lost : True
  g_Won : mg "Won" = some (.ref cs.c_Won)
  cl_Won : Cls K cs.c_Won
  no_taking : NoAttr K cs.c_Won "taking"
  in_Won : InK K cs.c_Won
  no_shows_Won : True
  g_Answer : mg "Answer" = some (.ref cs.c_Answer)
  k_LL : PySem.W.kitOne K (.ref cs.c_Lost) (.ref cs.c_Lost) = some true
  k_LW : PySem.W.kitOne K (.ref cs.c_Lost) (.ref cs.c_Won) = some false
  k_LA : PySem.W.kitOne K (.ref cs.c_Lost) (.ref cs.c_Answer) = some true
  k_WL : PySem.W.kitOne K (.ref cs.c_Won) (.ref cs.c_Lost) = some false
  k_WW : PySem.W.kitOne K (.ref cs.c_Won) (.ref cs.c_Won) = some true
  k_WA : PySem.W.kitOne K (.ref cs.c_Won) (.ref cs.c_Answer) = some true
  g_HeapError : mg "HeapError" = some (.ref cs.c_HeapError)
  g_BadTaking : mg "BadTaking" = some (.ref cs.c_BadTaking)
  x_BT : PySem.W.excIn K cs.c_BadTaking [.type "ValueError", .type "Exception", .type "BaseException", .type "object"] "ValueError.__new__" = true
  kp_BT : PySem.W.keepIn K (.ref cs.c_BadTaking) = true
  b_BT : PySem.W.subIn K (.ref cs.c_BadTaking) (.type "BaseException") = some true
  t_BT : PySem.W.typeIn K (.ref cs.c_BadTaking) = some (.type "type")
  e_BT : PySem.W.exmOne K (.ref cs.c_BadTaking) (.ref cs.c_HeapError) = some true
  i_BT : ExcC K cs.c_BadTaking
  k_BT : PySem.W.kitOne K (.ref cs.c_BadTaking) (.ref cs.c_BadTaking) = some true
def LostAt (cs : Cs) (H : Hp) (x : Addr) (n : Int) : Prop := ∃ dx, H x = some (.ins cs.c_Lost dx [("number", .int n)])
def WonAt (cs : Cs) (H : Hp) (x : Addr) (u v : Int) : Prop := ∃ dx q, H x = some (.ins cs.c_Won dx [("taking", .ref q)]) ∧ H q = some (.tup [.int u, .int v])
end text
/-- an answer, and what it shows of bounds and heaps -/
def Tells (cs : Cs) (H : Hp) (x : Addr) (f : Int → Int → Int → Bool) : Prop :=
  (∃ n, LostAt cs H x n ∧ 0 ≤ n ∧ Sm 900 n ∧ ∀ b i j, f b i j = decide (Th.nof b i j = some n)) ∨
  (∃ u v, WonAt cs H x u v ∧ ∀ b i j, f b i j = decide (Th.may b i j u v ∧ (Th.nof b (i - u) (j - v)).isSome = true))
theorem tells_mono {cs : Cs} {H H' : Hp} {x : Addr} {f : Int → Int → Int → Bool} (e : Evl.Ex H H') (h : Tells cs H x f) : Tells cs H' x f := by
  rcases h with ⟨n, ⟨dx, h⟩, r⟩ | ⟨u, v, ⟨dx, q, h, h'⟩, r⟩
  · exact .inl ⟨n, ⟨dx, e _ _ h⟩, r⟩
  · exact .inr ⟨u, v, ⟨dx, q, e _ _ h, e _ _ h'⟩, r⟩
/-- other bounds and heaps to ask of -/
def OtT (H : Hp) (x : V) : Prop := ∃ (t : Addr) (b : Int) (p : Addr) (i j : Int), x = .ref t ∧ H t = some (.tup [.int b, .ref p]) ∧ H p = some (.tup [.int i, .int j]) ∧ 1 ≤ b ∧ 0 ≤ i ∧ 0 ≤ j ∧ Sm 310 b ∧ Sm 310 i ∧ Sm 310 j
theorem ott_mono {H H' : Hp} {x : V} (e : Evl.Ex H H') (h : OtT H x) : OtT H' x := by
  obtain ⟨t, b, p, i, j, h1, h2, h3, r⟩ := h
  exact ⟨t, b, p, i, j, h1, e _ _ h2, e _ _ h3, r⟩
def cs0 : Cs := ⟨0, 0, 0, 0, 0⟩
section
variable {P : Program} {w : World} {K : PySem.W.Frag} {mg : Str → Option Value} {base : Heap} {cs : Cs}
-- is_whole: slots 0 value
abbrev s_is_whole : Stmt := top 8
theorem sc_is_whole : FnScope ["value"] ["value"] (defScope s_is_whole) := ⟨rfl, rfl, rfl, by decide +kernel, rfl, by decide +kernel, by decide +kernel⟩
def sp_is_whole (K : PySem.W.Frag) (cs : Cs) : Sp := fun vs H Q E => ∃ i : Int, vs = [.int i] ∧ Q (.bl true) H
theorem ok_is_whole {f : Addr} {fd : FuncData} (F : L2.Fun K "is_whole" "is_whole" s_is_whole f fd) (T : Txt K mg cs) : FnOk P w K mg base CX0 1 f fd ["value"] (sp_is_whole K cs) := by
  refine F.ok sc_is_whole (fun vs H Q E h => ?_) (fun cdv A outer s H vs Q E hr h => ?_)
  · obtain ⟨_, rfl, _⟩ := h
    rfl
  · obtain ⟨i, rfl, k⟩ := h
    refine ⟨_, (pss_one (ps_ret (pe_and (pe_callB cr_isB (by rfl) T.n_isinstance (by decide +kernel) (pa_cons (pv 0) (pa_cons (pe_bltn (v := .ty "int") (u := .type "int") (by rfl) T.n_int (by decide +kernel) rfl) pa_nil))) (pe_one (pe_not (pe_callB cr_isB (by rfl) T.n_isinstance (by decide +kernel) (pa_cons (pv 0) (pa_cons (pe_bltn (v := .ty "bool") (u := .type "bool") (by rfl) T.n_bool (by decide +kernel) rfl) pa_nil)))))))), ?_⟩
    exact ⟨_, rfl, _, "int", "int", true, rfl, .inl ⟨⟨_, rfl⟩, rfl⟩, kb_ii, true, rfl, iteT ⟨_, rfl, _, "int", "bool", false, rfl, .inl ⟨⟨_, rfl⟩, rfl⟩, kb_ib, false, rfl, k⟩⟩
-- _times_root: slots 0 bound, 1 number
abbrev s__times_root : Stmt := top 19
theorem sc__times_root : FnScope ["bound", "number"] ["bound", "number"] (defScope s__times_root) := ⟨rfl, rfl, rfl, by decide +kernel, rfl, by decide +kernel, by decide +kernel⟩
def sp__times_root (K : PySem.W.Frag) (cs : Cs) : Sp := fun vs H Q E => ∃ b n : Int, vs = [.int b, .int n] ∧ Sm 3000 b ∧ Sm 3000 n ∧ Q (.int (Th.rt (Th.D b n))) H
theorem ok__times_root {f : Addr} {fd : FuncData} (F : L2.Fun K "_times_root" "_times_root" s__times_root f fd) (T : Txt K mg cs) : FnOk P w K mg base CX0 1 f fd ["bound", "number"] (sp__times_root K cs) := by
  refine F.ok sc__times_root (fun vs H Q E h => ?_) (fun cdv A outer s H vs Q E hr h => ?_)
  · obtain ⟨_, _, rfl, _⟩ := h
    rfl
  · obtain ⟨b, n, rfl, sb, sn, k⟩ := h
    refine ⟨_, (pss_one (ps_ret (pe_callBfun cr_isqrt (by rfl) T.isqrt (pa_cons (pe_op op_mulX (pe_op op_mulX (pv 1) (pv 1)) (pe_op op_add (pe_op op_mulX (pv 0) (pv 0)) pe_int)) pa_nil)))), ?_⟩
    have s1 := sm_mul sn sn
    have s2 := sm_mul sb sb
    have s3 : Sm 6001 (b * b + 4) := sm_add s2 (sm_mono (sm_lit (a := 3) (by decide)) (by decide))
    have s4 := sm_mul s1 s3
    exact ⟨_, rfl, _, rfl, _, _, rfl, rfl, mulx sn sn, _, rfl, _, rfl, _, _, rfl, rfl, mulx sb sb, _, _, rfl, rfl, _, _, rfl, rfl, mulx s1 s3, _, rfl, Th.D_nn b n, sm_mono s4 (by decide), k⟩
-- _is_there: slots 0 heaps, 1 taking
abbrev s__is_there : Stmt := top 24
theorem sc__is_there : FnScope ["heaps", "taking"] ["heaps", "taking"] (defScope s__is_there) := ⟨rfl, rfl, rfl, by decide +kernel, rfl, by decide +kernel, by decide +kernel⟩
def sp__is_there (K : PySem.W.Frag) (cs : Cs) : Sp := fun vs H Q E => ∃ (p q : Addr) (i j u v : Int), vs = [.ref p, .ref q] ∧ H p = some (.tup [.int i, .int j]) ∧ H q = some (.tup [.int u, .int v]) ∧ Q (.bl (decide (0 ≤ u ∧ u ≤ i ∧ 0 ≤ v ∧ v ≤ j))) H
theorem ok__is_there {f : Addr} {fd : FuncData} (F : L2.Fun K "_is_there" "_is_there" s__is_there f fd) (T : Txt K mg cs) : FnOk P w K mg base CX0 1 f fd ["heaps", "taking"] (sp__is_there K cs) := by
  refine F.ok sc__is_there (fun vs H Q E h => ?_) (fun cdv A outer s H vs Q E hr h => ?_)
  · obtain ⟨_, _, _, _, _, _, rfl, _⟩ := h
    rfl
  · obtain ⟨p, q, i, j, u, v, rfl, hp, hq, k⟩ := h
    refine ⟨_, (pss_one (ps_ret (pe_and (pe_chain op_le op_le pe_int (pe_ix ix_tup (pv 1) pe_int (fun _ _ => rfl)) (pe_ix ix_tup (pv 0) pe_int (fun _ _ => rfl))) (pe_one (pe_chain op_le op_le pe_int (pe_ix ix_tup (pv 1) pe_int (fun _ _ => rfl)) (pe_ix ix_tup (pv 0) pe_int (fun _ _ => rfl))))))), ?_⟩
    have kk : ∀ c, decide (0 ≤ u ∧ u ≤ i ∧ 0 ≤ v ∧ v ≤ j) = c → Q (.bl c) H := fun c h => h ▸ k
    refine ⟨_, rfl, q, _, _, _, rfl, rfl, SqT.of hq, at0, _, _, rfl, rfl, _, rfl, if2 (fun c1 => ⟨_, rfl, p, _, _, _, rfl, rfl, SqT.of hp, at0, _, _, rfl, rfl, _, rfl, if2 (fun c2 => ⟨_, rfl, q, _, _, _, rfl, rfl, SqT.of hq, at1, _, _, rfl, rfl, _, rfl, if2 (fun c3 => ⟨_, rfl, p, _, _, _, rfl, rfl, SqT.of hp, at1, _, _, rfl, rfl, ?_⟩) (fun c3 => ?_)⟩) (fun c2 => ?_)⟩) (fun c1 => ⟨_, rfl, iteF ?_⟩)⟩
    · have c1' := of_decide_eq_true c1
      have c2' := of_decide_eq_true c2
      have c3' := of_decide_eq_true c3
      exact kk _ (decide_eq_decide.mpr (by omega))
    · have c3' := of_decide_eq_false c3
      exact kk _ (decide_eq_false (by omega))
    · have c2' := of_decide_eq_false c2
      exact kk _ (decide_eq_false (by omega))
    · have c1' := of_decide_eq_false c1
      exact kk _ (decide_eq_false (by omega))
-- _is_let: slots 0 bound, 1 taking
abbrev s__is_let : Stmt := top 25
theorem sc__is_let : FnScope ["bound", "taking"] ["bound", "taking"] (defScope s__is_let) := ⟨rfl, rfl, rfl, by decide +kernel, rfl, by decide +kernel, by decide +kernel⟩
def sp__is_let (K : PySem.W.Frag) (cs : Cs) : Sp := fun vs H Q E => ∃ (b : Int) (q : Addr) (u v : Int), vs = [.int b, .ref q] ∧ H q = some (.tup [.int u, .int v]) ∧ Q (.bl (decide (((u = 0 ∨ v = 0) ∧ u ≠ v) ∨ (u ≠ 0 ∧ v ≠ 0 ∧ Th.ab (u - v) < b)))) H
theorem ok__is_let {f : Addr} {fd : FuncData} (F : L2.Fun K "_is_let" "_is_let" s__is_let f fd) (T : Txt K mg cs) : FnOk P w K mg base CX0 1 f fd ["bound", "taking"] (sp__is_let K cs) := by
  refine F.ok sc__is_let (fun vs H Q E h => ?_) (fun cdv A outer s H vs Q E hr h => ?_)
  · obtain ⟨_, _, _, _, rfl, _⟩ := h
    rfl
  · obtain ⟨b, q, u, v, rfl, hq, k⟩ := h
    refine ⟨_, (pss_cons (ps_if (PW.pt (pw_or (pt_cmp (pc_eqI (pe_ix ix_tup (pv 1) pe_int (fun _ _ => rfl)) pe_int)) (pw_or1 (pt_cmp (pc_eqI (pe_ix ix_tup (pv 1) pe_int (fun _ _ => rfl)) pe_int))))) (pss_one (ps_ret (pe_cmp (pc_neI (pe_ix ix_tup (pv 1) pe_int (fun _ _ => rfl)) (pe_ix ix_tup (pv 1) pe_int (fun _ _ => rfl)))))) pss_nil) (pss_one (ps_ret (pe_cmp (pc_lt (pe_callB call_abs (by rfl) T.n_abs (by decide +kernel) (pa_cons (pe_op op_sub (pe_ix ix_tup (pv 1) pe_int (fun _ _ => rfl)) (pe_ix ix_tup (pv 1) pe_int (fun _ _ => rfl))) pa_nil)) (pv 0)))))), ?_⟩
    have kk : ∀ c, decide (((u = 0 ∨ v = 0) ∧ u ≠ v) ∨ (u ≠ 0 ∧ v ≠ 0 ∧ Th.ab (u - v) < b)) = c → Q (.bl c) H := fun c h => h ▸ k
    have diff : (u = 0 ∨ v = 0) → tRet (tNeI (tOp (rIxT K) (tVar 1) (tC (.int 0))) (tOp (rIxT K) (tVar 1) (tC (.int 1)))) { nx := fun _ H' => Q .non H', rt := Q } (start ["bound", "taking"] [.int b, .ref q]) H := fun c => by
      refine ⟨_, rfl, q, _, _, _, rfl, rfl, SqT.of hq, at0, _, rfl, q, _, _, _, rfl, rfl, SqT.of hq, at1, _, _, rfl, rfl, ?_⟩
      refine kk _ ?_
      by_cases d : u = v
      · exact (decide_eq_false (by omega)).trans (nd d).symm
      · exact (decide_eq_true (.inl ⟨c, d⟩)).trans (nd1 d).symm
    refine ⟨_, rfl, q, _, _, _, rfl, rfl, SqT.of hq, at0, _, _, rfl, rfl, _, rfl, if2 (fun c1 => ifT rfl (diff (.inl (of_decide_eq_true c1)))) (fun c1 => ⟨_, rfl, q, _, _, _, rfl, rfl, SqT.of hq, at1, _, _, rfl, rfl, _, rfl, if2 (fun c2 => diff (.inr (of_decide_eq_true c2))) (fun c2 => ?_)⟩)⟩
    have c1' := of_decide_eq_false c1
    have c2' := of_decide_eq_false c2
    refine ⟨_, rfl, q, _, _, _, rfl, rfl, SqT.of hq, at0, _, rfl, q, _, _, _, rfl, rfl, SqT.of hq, at1, _, _, rfl, rfl, _, rfl, _, rfl, _, _, rfl, rfl, ?_⟩
    exact kk _ (decide_eq_decide.mpr ⟨fun h => h.elim (fun h => absurd h.1 (by omega)) (fun h => h.2.2), fun h => .inr ⟨c1', c2', h⟩⟩)
-- Lost.__init__: slots 0 self, 1 number
abbrev s_Lost___init__ : Stmt := inClass (top 28) 0
theorem sc_Lost___init__ : FnScope ["self", "number"] ["self", "number"] (defScope s_Lost___init__) := ⟨rfl, rfl, rfl, by decide +kernel, rfl, by decide +kernel, by decide +kernel⟩
def sp_Lost___init__ (K : PySem.W.Frag) (cs : Cs) : Sp := fun vs H Q E => ∃ (x dx : Addr) (n : Int), vs = [.ref x, .int n] ∧ H x = some (.ins cs.c_Lost dx []) ∧ Q .non (upd H x (.ins cs.c_Lost dx [("number", .int n)]))
theorem ok_Lost___init__ {f : Addr} {fd : FuncData} (F : L2.Fun K "__init__" "Lost.__init__" s_Lost___init__ f fd) (T : Txt K mg cs) : FnOk P w K mg base CX0 1 f fd ["self", "number"] (sp_Lost___init__ K cs) := by
  refine F.ok sc_Lost___init__ (fun vs H Q E h => ?_) (fun cdv A outer s H vs Q E hr h => ?_)
  · obtain ⟨_, _, _, rfl, _⟩ := h
    rfl
  · obtain ⟨x, dx, n, rfl, hx, k⟩ := h
    refine ⟨_, (pss_one (ps_fld (pv 0) (pv 1) rfl)), ?_⟩
    exact ⟨_, rfl, _, rfl, x, _, dx, [], rfl, hx, T.cl_Lost, T.no_number, (by show 0 < 1000; decide), k⟩
-- Won.__init__: slots 0 self, 1 taking
abbrev s_Won___init__ : Stmt := inClass (top 29) 0
theorem sc_Won___init__ : FnScope ["self", "taking"] ["self", "taking"] (defScope s_Won___init__) := ⟨rfl, rfl, rfl, by decide +kernel, rfl, by decide +kernel, by decide +kernel⟩
def sp_Won___init__ (K : PySem.W.Frag) (cs : Cs) : Sp := fun vs H Q E => ∃ (x dx q : Addr), vs = [.ref x, .ref q] ∧ H x = some (.ins cs.c_Won dx []) ∧ Q .non (upd H x (.ins cs.c_Won dx [("taking", .ref q)]))
theorem ok_Won___init__ {f : Addr} {fd : FuncData} (F : L2.Fun K "__init__" "Won.__init__" s_Won___init__ f fd) (T : Txt K mg cs) : FnOk P w K mg base CX0 1 f fd ["self", "taking"] (sp_Won___init__ K cs) := by
  refine F.ok sc_Won___init__ (fun vs H Q E h => ?_) (fun cdv A outer s H vs Q E hr h => ?_)
  · obtain ⟨_, _, _, rfl, _⟩ := h
    rfl
  · obtain ⟨x, dx, q, rfl, hx, k⟩ := h
    refine ⟨_, (pss_one (ps_fld (pv 0) (pv 1) rfl)), ?_⟩
    exact ⟨_, rfl, _, rfl, x, _, dx, [], rfl, hx, T.cl_Won, T.no_taking, (by show 0 < 1000; decide), k⟩
-- _law_cell_at: slots 0 script, 1 k
abbrev s__law_cell_at : Stmt := top 35
theorem sc__law_cell_at : FnScope ["_law_script", "_law_k"] ["_law_script", "_law_k"] (defScope s__law_cell_at) := ⟨rfl, rfl, rfl, by decide +kernel, rfl, by decide +kernel, by decide +kernel⟩
def sp__law_cell_at (K : PySem.W.Frag) (cs : Cs) : Sp := fun vs H Q E => ∃ (a : Addr) (ns : List Int) (k : Int), vs = [.ref a, .int k] ∧ SqL K H a (ns.map V.int) ∧ 0 ≤ k ∧ Q (.int (ns.getD k.toNat 0)) H
theorem ok__law_cell_at {f : Addr} {fd : FuncData} (F : L2.Fun K "_law_cell_at" "_law_cell_at" s__law_cell_at f fd) (T : Txt K mg cs) : FnOk P w K mg base CX0 1 f fd ["_law_script", "_law_k"] (sp__law_cell_at K cs) := by
  refine F.ok sc__law_cell_at (fun vs H Q E h => ?_) (fun cdv A outer s H vs Q E hr h => ?_)
  · obtain ⟨_, _, _, rfl, _⟩ := h
    rfl
  · obtain ⟨a, ns, j, rfl, hs, h0, k⟩ := h
    refine ⟨_, (pss_cons (ps_if (pt_cmp (pc_lt (pv 1) (pe_callB call_len_seq (by rfl) T.n_len (by decide +kernel) (pa_cons (pv 0) pa_nil)))) (pss_one (ps_ret (pe_ix ix_list (pv 0) (pv 1) (fun _ _ => rfl)))) pss_nil) (pss_one (ps_ret pe_int))), ?_⟩
    refine ⟨_, rfl, _, rfl, a, _, rfl, .inl hs, _, _, rfl, rfl, _, rfl, ?_⟩
    by_cases c : j < (ns.map V.int).length
    · exact ifT (decide_eq_true c) ⟨_, rfl, _, rfl, a, _, _, _, rfl, rfl, hs, at_cell h0 c, k⟩
    · rw [cell_out c] at k
      exact ifF (decide_eq_false c) k
-- _law_draw: slots 0 cell, 1 k, 2 many, 3 primes
abbrev s__law_draw : Stmt := top 36
theorem sc__law_draw : FnScope ["_law_cell", "_law_k", "_law_many", "_law_primes"] ["_law_cell", "_law_k", "_law_many"] (defScope s__law_draw) := ⟨rfl, rfl, rfl, by decide +kernel, rfl, by decide +kernel, by decide +kernel⟩
def sp__law_draw (K : PySem.W.Frag) (cs : Cs) : Sp := fun vs H Q E => ∃ c k m : Int, vs = [.int c, .int k, .int m] ∧ Sm 3000000 c ∧ Sm 100 k ∧ 0 ≤ k ∧ 0 < m ∧ ∀ r H', Evl.Ex H H' → 0 ≤ r → r < m → Q (.int r) H'
theorem ok__law_draw {f : Addr} {fd : FuncData} (F : L2.Fun K "_law_draw" "_law_draw" s__law_draw f fd) (T : Txt K mg cs) : FnOk P w K mg base CX0 1 f fd ["_law_cell", "_law_k", "_law_many"] (sp__law_draw K cs) := by
  refine F.ok sc__law_draw (fun vs H Q E h => ?_) (fun cdv A outer s H vs Q E hr h => ?_)
  · obtain ⟨_, _, _, rfl, _⟩ := h
    rfl
  · obtain ⟨c, j, m, rfl, sc, sj, h0, hm, k⟩ := h
    refine ⟨_, (pss_cons (ps_set (i := 3) sc__law_draw.nd rfl (Or.inl rfl) (pe_tup (pa_cons pe_int (pa_cons pe_int (pa_cons pe_int (pa_cons pe_int (pa_cons pe_int (pa_cons pe_int (pa_cons pe_int (pa_cons pe_int (pa_cons pe_int (pa_cons pe_int (pa_cons pe_int (pa_cons pe_int (pa_cons pe_int (pa_cons pe_int (pa_cons pe_int (pa_cons pe_int pa_nil)))))))))))))))))) (pss_one (ps_ret (pe_op op_mod (pe_op op_mod (pe_op op_add (pe_op op_mulX (pv 0) pe_int) (pe_op op_mulX (pv 1) pe_int)) (pe_ix ix_tup (pv 3) (pe_op op_mod (pv 1) pe_int) (fun _ _ => rfl))) (pv 2))))), ?_⟩
    refine ⟨(by show 16 ≤ sizeLine; decide), fun p hp => ?_⟩
    have hb : 0 ≤ j % 16 ∧ j % 16 < 16 := by omega
    obtain ⟨v, hv, hmem⟩ := at_in (xs := [.int 1000003, .int 1000033, .int 1000037, .int 1000039, .int 1000081, .int 1000099, .int 1000117, .int 1000121, .int 1000133, .int 1000151, .int 1000159, .int 1000171, .int 1000183, .int 1000187, .int 1000193, .int 1000199]) hb.1 hb.2
    obtain ⟨z, rfl, hz⟩ : ∃ z : Int, v = .int z ∧ 0 < z := by
      simp only [List.mem_cons, List.not_mem_nil, or_false] at hmem
      rcases hmem with h | h | h | h | h | h | h | h | h | h | h | h | h | h | h | h <;> exact ⟨_, h, by decide⟩
    refine ⟨_, rfl, _, _, rfl, rfl, mulx sc (sm_lit (a := 17) (by decide)), _, rfl, _, _, rfl, rfl, mulx sj (sm_lit (a := 18) (by decide)), _, _, rfl, rfl, _, rfl, _, rfl, _, _, rfl, rfl, (by show (0 : Int) < 16; decide), p, _, _, _, rfl, rfl, SqT.of upd_same, hv, _, _, rfl, rfl, hz, _, rfl, _, _, rfl, rfl, hm, ?_⟩
    exact k _ _ (ex_new hp) (Int.emod_nonneg _ (by omega)) (Int.emod_lt_of_pos _ hm)
-- _law_root: slots 0 number_here, 1 now
abbrev s__law_root : Stmt := top 38
theorem sc__law_root : FnScope ["_law_number_here", "_law_now"] ["_law_number_here"] (defScope s__law_root) := ⟨rfl, rfl, rfl, by decide +kernel, rfl, by decide +kernel, by decide +kernel⟩
def sp__law_root (K : PySem.W.Frag) (cs : Cs) : Sp := fun vs H Q E => ∃ N : Int, vs = [.int N] ∧ 0 ≤ N ∧ Sm 8000 N ∧ Q (.int (Th.rt N)) H
theorem ok__law_root {f : Addr} {fd : FuncData} (F : L2.Fun K "_law_root" "_law_root" s__law_root f fd) (T : Txt K mg cs) : FnOk P w K mg base CX0 1 f fd ["_law_number_here"] (sp__law_root K cs) := by
  refine F.ok sc__law_root (fun vs H Q E h => ?_) (fun cdv A outer s H vs Q E hr h => ?_)
  · obtain ⟨_, rfl, _⟩ := h
    rfl
  · obtain ⟨N, rfl, hN, sN, k⟩ := h
    refine ⟨_, (pss_cons (ps_set (i := 1) sc__law_root.nd rfl (Or.inl rfl) pe_int) (pss_cons (ps_while PassesOwn.never (pt_cmp (pc_le (pe_op op_mulX (pv 1) (pv 1)) (pv 0))) (pss_one (ps_set (i := 1) sc__law_root.nd rfl (Or.inl rfl) (pe_op op_mulX pe_int (pv 1))))) (pss_cons (ps_while PassesOwn.never (pt_cmp (pc_gt (pe_op op_mulX (pv 1) (pv 1)) (pv 0))) (pss_one (ps_set (i := 1) sc__law_root.nd rfl (Or.inl rfl) (pe_op op_fdivW (pe_op op_add (pv 1) (pe_op op_fdivW (pv 0) (pv 1))) pe_int)))) (pss_one (ps_ret (pv 1)))))), ?_⟩
    have hr := Th.rt_nn N
    have hl := Th.rt_le hN
    have sr : ∀ x : Int, 0 ≤ x → x ≤ 1024 * Th.rt N + 1 → Sm 8012 x := fun x h0 h1 => by
      have s1 : Sm 8011 (1024 * N) := sm_mul (sm_lit (a := 11) (by decide)) sN
      have s2 : Sm 8012 (1024 * N + 1) := sm_add s1 (sm_mono (sm_lit (a := 1) (by decide)) (by decide))
      exact sm_le s2 h0 (by omega)
    -- upward
    refine ⟨fun m σ H' => ∃ x : Int, σ = [some (.int N), some (.int x)] ∧ H = H' ∧ 1 ≤ x ∧ x ≤ 1024 * Th.rt N + 1 ∧ m = (1024 * Th.rt N + 2 - x).toNat, ⟨_, 1, rfl, rfl, by omega, by omega, rfl⟩, ?_⟩
    rintro m σ H' ⟨x, rfl, rfl, h1, h2, rfl⟩
    have sx := sr x (by omega) h2
    refine ⟨_, rfl, _, rfl, _, _, rfl, rfl, mulx sx sx, _, rfl, _, _, rfl, rfl, _, rfl, ?_⟩
    refine if2 (fun c => ?_) (fun c => ?_)
    · have c' : x * x ≤ N := of_decide_eq_true c
      have c2 := (Th.le_rt hN (show 0 ≤ x by omega)).mpr c'
      refine ⟨_, fun σ' H1 h => h, ?_⟩
      refine ⟨_, rfl, _, _, rfl, rfl, mulx (sm_lit (a := 11) (by decide)) sx, ?_⟩
      exact ⟨(1024 * Th.rt N + 2 - 1024 * x).toNat, by omega, 1024 * x, rfl, rfl, by omega, by omega, rfl⟩
    -- downward
    have hx : Th.rt N ≤ x := by
      have c' : ¬ x * x ≤ N := of_decide_eq_false c
      have := Th.rt_lt hN (show 0 ≤ x by omega)
      omega
    refine ⟨fun m σ H' => ∃ x : Int, σ = [some (.int N), some (.int x)] ∧ H = H' ∧ 0 ≤ x ∧ Th.rt N ≤ x ∧ x ≤ 1024 * Th.rt N + 1 ∧ m = x.toNat, ⟨_, x, rfl, rfl, by omega, hx, h2, rfl⟩, ?_⟩
    rintro m σ H' ⟨x, rfl, rfl, h1, h3, h2, rfl⟩
    have sx := sr x (by omega) h2
    refine ⟨_, rfl, _, rfl, _, _, rfl, rfl, mulx sx sx, _, rfl, _, _, rfl, rfl, _, rfl, ?_⟩
    refine if2 (fun c => ?_) (fun c => ?_)
    · have c' : N < x * x := of_decide_eq_true c
      have x1 : 1 ≤ x := by
        by_cases z : x = 0
        · rw [z] at c'
          omega
        · omega
      obtain ⟨n1, n2⟩ := Th.newton_lt c' x1 hN
      have n3 := Th.newton_ge (Th.rt_spec hN).1 x1
      refine ⟨_, fun σ' H1 h => h, ?_⟩
      refine ⟨_, rfl, _, rfl, _, rfl, _, _, rfl, rfl, divw (by omega) sx, _, _, rfl, rfl, _, _, rfl, rfl, divw (b := 3) (by decide) (sm_lit (by decide)), ?_⟩
      exact ⟨((x + N / x) / 2).toNat, by omega, (x + N / x) / 2, rfl, rfl, by omega, n3, by omega, rfl⟩
    · have c' : ¬ N < x * x := of_decide_eq_false c
      have e := Th.rt_eq hN h3 (by omega)
      subst e
      exact ⟨_, rfl, k⟩
-- _law_may: slots 0 bound_here, 1 heaps_here, 2 taking
abbrev s__law_may : Stmt := top 41
theorem sc__law_may : FnScope ["_law_bound_here", "_law_heaps_here", "_law_taking"] ["_law_bound_here", "_law_heaps_here", "_law_taking"] (defScope s__law_may) := ⟨rfl, rfl, rfl, by decide +kernel, rfl, by decide +kernel, by decide +kernel⟩
def sp__law_may (K : PySem.W.Frag) (cs : Cs) : Sp := fun vs H Q E => ∃ (b : Int) (p q : Addr) (i j u v : Int), vs = [.int b, .ref p, .ref q] ∧ H p = some (.tup [.int i, .int j]) ∧ H q = some (.tup [.int u, .int v]) ∧ Q (.bl (decide (Th.may b i j u v))) H
theorem ok__law_may {f : Addr} {fd : FuncData} (F : L2.Fun K "_law_may" "_law_may" s__law_may f fd) (T : Txt K mg cs) : FnOk P w K mg base CX0 1 f fd ["_law_bound_here", "_law_heaps_here", "_law_taking"] (sp__law_may K cs) := by
  refine F.ok sc__law_may (fun vs H Q E h => ?_) (fun cdv A outer s H vs Q E hr h => ?_)
  · obtain ⟨_, _, _, _, _, _, _, rfl, _⟩ := h
    rfl
  · obtain ⟨b, p, q, i, j, u, v, rfl, hp, hq, k⟩ := h
    refine ⟨_, (pss_cons (ps_if (PW.pt (pw_or (pt_cmp (pc_lt (pe_callB (cr_minT rfl hr.units) (by rfl) T.n_min (by decide +kernel) (pa_cons (pv 2) pa_nil)) pe_int)) (pw_or (pt_cmp (pc_eqI (pe_callB (cr_maxT rfl hr.units) (by rfl) T.n_max (by decide +kernel) (pa_cons (pv 2) pa_nil)) pe_int)) (pw_or (pt_cmp (pc_gt (pe_ix ix_tup (pv 2) pe_int (fun _ _ => rfl)) (pe_ix ix_tup (pv 1) pe_int (fun _ _ => rfl)))) (pw_or1 (pt_cmp (pc_gt (pe_ix ix_tup (pv 2) pe_int (fun _ _ => rfl)) (pe_ix ix_tup (pv 1) pe_int (fun _ _ => rfl))))))))) (pss_one (ps_ret pe_bl)) pss_nil) (pss_one (ps_ret (pe_or (pe_cmp (pc_eqI (pe_callB (cr_minT rfl hr.units) (by rfl) T.n_min (by decide +kernel) (pa_cons (pv 2) pa_nil)) pe_int)) (pe_one (pe_cmp (pc_lt (pe_callB call_abs (by rfl) T.n_abs (by decide +kernel) (pa_cons (pe_op op_sub (pe_ix ix_tup (pv 2) pe_int (fun _ _ => rfl)) (pe_ix ix_tup (pv 2) pe_int (fun _ _ => rfl))) pa_nil)) (pv 0)))))))), ?_⟩
    have kk : ∀ c, decide (Th.may b i j u v) = c → Q (.bl c) H := fun c h => h ▸ k
    have no : ¬ Th.may b i j u v → Q (.bl false) H := fun h => kk _ (decide_eq_false h)
    refine ⟨_, rfl, q, u, v, rfl, hq, _, _, rfl, rfl, _, rfl, if2 (fun c => ifT rfl (no ?_)) (fun c1 => ⟨_, rfl, q, u, v, rfl, hq, _, _, rfl, rfl, _, rfl, if2 (fun c => ifT rfl (no ?_)) (fun c2 => ⟨_, rfl, q, _, _, _, rfl, rfl, SqT.of hq, at0, _, rfl, p, _, _, _, rfl, rfl, SqT.of hp, at0, _, _, rfl, rfl, _, rfl, if2 (fun c => ifT rfl (no ?_)) (fun c3 => ⟨_, rfl, q, _, _, _, rfl, rfl, SqT.of hq, at1, _, rfl, p, _, _, _, rfl, rfl, SqT.of hp, at1, _, _, rfl, rfl, _, rfl, if2 (fun c => no ?_) (fun c4 => ?_)⟩)⟩)⟩)⟩
    · have := of_decide_eq_true c
      unfold Th.may
      omega
    · have := of_decide_eq_true c
      unfold Th.may
      omega
    · have := of_decide_eq_true c
      unfold Th.may
      omega
    · have := of_decide_eq_true c
      unfold Th.may
      omega
    have d1 := of_decide_eq_false c1
    have d2 := of_decide_eq_false c2
    have d3 := of_decide_eq_false c3
    have d4 := of_decide_eq_false c4
    refine ⟨_, rfl, q, u, v, rfl, hq, _, _, rfl, rfl, _, rfl, if2 (fun c => kk _ (decide_eq_true ?_)) (fun c5 => ⟨_, rfl, q, _, _, _, rfl, rfl, SqT.of hq, at0, _, rfl, q, _, _, _, rfl, rfl, SqT.of hq, at1, _, _, rfl, rfl, _, rfl, _, rfl, _, _, rfl, rfl, kk _ (decide_eq_decide.mpr ?_)⟩)⟩
    · have := of_decide_eq_true c
      unfold Th.may
      omega
    · have d5 := of_decide_eq_false c5
      show Th.may b i j u v ↔ Th.ab (u - v) < b
      unfold Th.may
      omega
-- _law_whole: slots 0 number_here
abbrev s__law_whole : Stmt := top 44
theorem sc__law_whole : FnScope ["_law_number_here"] ["_law_number_here"] (defScope s__law_whole) := ⟨rfl, rfl, rfl, by decide +kernel, rfl, by decide +kernel, by decide +kernel⟩
def sp__law_whole (K : PySem.W.Frag) (cs : Cs) : Sp := fun vs H Q E => ∃ i : Int, vs = [.int i] ∧ Q (.bl true) H
theorem ok__law_whole {f : Addr} {fd : FuncData} (F : L2.Fun K "_law_whole" "_law_whole" s__law_whole f fd) (T : Txt K mg cs) : FnOk P w K mg base CX0 1 f fd ["_law_number_here"] (sp__law_whole K cs) := by
  refine F.ok sc__law_whole (fun vs H Q E h => ?_) (fun cdv A outer s H vs Q E hr h => ?_)
  · obtain ⟨_, rfl, _⟩ := h
    rfl
  · obtain ⟨i, rfl, k⟩ := h
    refine ⟨_, (pss_one (ps_ret (pe_and (pe_callB cr_isB (by rfl) T.n_isinstance (by decide +kernel) (pa_cons (pv 0) (pa_cons (pe_bltn (v := .ty "int") (u := .type "int") (by rfl) T.n_int (by decide +kernel) rfl) pa_nil))) (pe_one (pe_not (pe_callB cr_isB (by rfl) T.n_isinstance (by decide +kernel) (pa_cons (pv 0) (pa_cons (pe_bltn (v := .ty "bool") (u := .type "bool") (by rfl) T.n_bool (by decide +kernel) rfl) pa_nil)))))))), ?_⟩
    exact ⟨_, rfl, _, "int", "int", true, rfl, .inl ⟨⟨_, rfl⟩, rfl⟩, kb_ii, true, rfl, iteT ⟨_, rfl, _, "int", "bool", false, rfl, .inl ⟨⟨_, rfl⟩, rfl⟩, kb_ib, false, rfl, k⟩⟩
-- _law_says: slots 0 said, 1 due_here
abbrev s__law_says : Stmt := top 46
theorem sc__law_says : FnScope ["_law_said", "_law_due_here"] ["_law_said", "_law_due_here"] (defScope s__law_says) := ⟨rfl, rfl, rfl, by decide +kernel, rfl, by decide +kernel, by decide +kernel⟩
def sp__law_says (K : PySem.W.Frag) (cs : Cs) : Sp := fun vs H Q E => ∃ a b : Bool, vs = [.bl a, .bl b] ∧ Q (.bl (decide (a = b))) H
theorem ok__law_says {f : Addr} {fd : FuncData} (F : L2.Fun K "_law_says" "_law_says" s__law_says f fd) (T : Txt K mg cs) : FnOk P w K mg base CX0 1 f fd ["_law_said", "_law_due_here"] (sp__law_says K cs) := by
  refine F.ok sc__law_says (fun vs H Q E h => ?_) (fun cdv A outer s H vs Q E hr h => ?_)
  · obtain ⟨_, _, rfl, _⟩ := h
    rfl
  · obtain ⟨a, b, rfl, k⟩ := h
    refine ⟨_, (pss_one (ps_ret (pe_and (pe_callB cr_isB (by rfl) T.n_isinstance (by decide +kernel) (pa_cons (pv 0) (pa_cons (pe_bltn (v := .ty "bool") (u := .type "bool") (by rfl) T.n_bool (by decide +kernel) rfl) pa_nil))) (pe_one (pe_cmpR op_eq (pv 0) (pv 1) (nomark _)))))), ?_⟩
    refine ⟨_, rfl, _, "bool", "bool", true, rfl, .inr (.inl ⟨⟨_, rfl⟩, rfl⟩), kb_bb, true, rfl, iteT ⟨_, rfl, _, rfl, rfl, bq (Q := Q) ?_ k⟩⟩
    cases a <;> cases b <;> rfl
-- is_pair: slots 0 value
abbrev s_is_pair : Stmt := top 9
theorem sc_is_pair : FnScope ["value"] ["value"] (defScope s_is_pair) := ⟨rfl, rfl, rfl, by decide +kernel, rfl, by decide +kernel, by decide +kernel⟩
def sp_is_pair (K : PySem.W.Frag) (cs : Cs) : Sp := fun vs H Q E => ∃ (p : Addr) (i j : Int), vs = [.ref p] ∧ H p = some (.tup [.int i, .int j]) ∧ Q (.bl true) H
theorem ok_is_pair {f : Addr} {fd : FuncData} (F : L2.Fun K "is_pair" "is_pair" s_is_pair f fd) (T : Txt K mg cs)
    (c_is_whole : C8.Cal P w K mg base 1 "is_whole" (sp_is_whole K cs) []) : FnOk P w K mg base CX0 2 f fd ["value"] (sp_is_pair K cs) := by
  refine F.ok sc_is_pair (fun vs H Q E h => ?_) (fun cdv A outer s H vs Q E hr h => ?_)
  · obtain ⟨_, _, _, rfl, _⟩ := h
    rfl
  · obtain ⟨p, i, j, rfl, hp, k⟩ := h
    refine ⟨_, (pss_cons (ps_if (PW.pt (pw_or (pt_not (pt_val (pe_callB cr_isB (by rfl) T.n_isinstance (by decide +kernel) (pa_cons (pv 0) (pa_cons (pe_bltn (v := .ty "tuple") (u := .type "tuple") (by rfl) T.n_tuple (by decide +kernel) rfl) pa_nil))))) (pw_or1 (pt_cmp (pc_neI (pe_callB call_len_seq (by rfl) T.n_len (by decide +kernel) (pa_cons (pv 0) pa_nil)) pe_int))))) (pss_one (ps_ret pe_bl)) pss_nil) (pss_one (ps_ret (pe_and (C8.pe_c c_is_whole hr (by decide) (by rfl) (pa_cons (pe_ix ix_tup (pv 0) pe_int (fun _ _ => rfl)) pa_nil)) (pe_one (C8.pe_c c_is_whole hr (by decide) (by rfl) (pa_cons (pe_ix ix_tup (pv 0) pe_int (fun _ _ => rfl)) pa_nil))))))), ?_⟩
    refine ⟨_, rfl, _, "tuple", "tuple", true, rfl, .inr (.inr ⟨⟨p, _, rfl, hp⟩, rfl⟩), kb_tt, true, rfl, iteF ⟨_, rfl, p, _, rfl, .inr (SqT.of hp), _, _, rfl, rfl, _, rfl, ?_⟩⟩
    refine ifF (nd rfl) ?_
    exact ⟨_, rfl, p, _, _, _, rfl, rfl, SqT.of hp, at0, i, rfl, true, rfl, iteT ⟨_, rfl, p, _, _, _, rfl, rfl, SqT.of hp, at1, j, rfl, k⟩⟩
-- is_bound: slots 0 value
abbrev s_is_bound : Stmt := top 10
theorem sc_is_bound : FnScope ["value"] ["value"] (defScope s_is_bound) := ⟨rfl, rfl, rfl, by decide +kernel, rfl, by decide +kernel, by decide +kernel⟩
def sp_is_bound (K : PySem.W.Frag) (cs : Cs) : Sp := fun vs H Q E => ∃ i : Int, vs = [.int i] ∧ Q (.bl (decide (1 ≤ i))) H
theorem ok_is_bound {f : Addr} {fd : FuncData} (F : L2.Fun K "is_bound" "is_bound" s_is_bound f fd) (T : Txt K mg cs)
    (c_is_whole : C8.Cal P w K mg base 1 "is_whole" (sp_is_whole K cs) []) : FnOk P w K mg base CX0 2 f fd ["value"] (sp_is_bound K cs) := by
  refine F.ok sc_is_bound (fun vs H Q E h => ?_) (fun cdv A outer s H vs Q E hr h => ?_)
  · obtain ⟨_, rfl, _⟩ := h
    rfl
  · obtain ⟨i, rfl, k⟩ := h
    refine ⟨_, (pss_one (ps_ret (pe_and (C8.pe_c c_is_whole hr (by decide) (by rfl) (pa_cons (pv 0) pa_nil)) (pe_one (pe_cmp (pc_ge (pv 0) pe_int)))))), ?_⟩
    exact ⟨_, rfl, i, rfl, true, rfl, iteT ⟨_, rfl, _, _, rfl, rfl, k⟩⟩
-- check_number: slots 0 number, 1 first
abbrev s_check_number : Stmt := top 14
theorem sc_check_number : FnScope ["number", "first"] ["number", "first"] (defScope s_check_number) := ⟨rfl, rfl, rfl, by decide +kernel, rfl, by decide +kernel, by decide +kernel⟩
def sp_check_number (K : PySem.W.Frag) (cs : Cs) : Sp := fun vs H Q E => ∃ i f : Int, vs = [.int i, .int f] ∧ f ≤ i ∧ Q .non H
theorem ok_check_number {f : Addr} {fd : FuncData} (F : L2.Fun K "check_number" "check_number" s_check_number f fd) (T : Txt K mg cs)
    (c_is_whole : C8.Cal P w K mg base 1 "is_whole" (sp_is_whole K cs) []) : FnOk P w K mg base CX0 2 f fd ["number", "first"] (sp_check_number K cs) := by
  refine F.ok sc_check_number (fun vs H Q E h => ?_) (fun cdv A outer s H vs Q E hr h => ?_)
  · obtain ⟨_, _, rfl, _⟩ := h
    rfl
  · obtain ⟨i, f, rfl, hi, k⟩ := h
    refine ⟨_, (pss_one (ps_if (PW.pt (pw_or (pt_not (pt_val (C8.pe_c c_is_whole hr (by decide) (by rfl) (pa_cons (pv 0) pa_nil)))) (pw_or1 (pt_cmp (pc_lt (pv 0) (pv 1)))))) (pss_one (ps_never)) pss_nil)), ?_⟩
    refine ⟨_, rfl, i, rfl, true, rfl, iteF ⟨_, rfl, _, rfl, _, _, rfl, rfl, _, rfl, ?_⟩⟩
    exact ifF (decide_eq_false (by omega)) k
-- _lessers_below: slots 0 bound, 1 end
abbrev s__lessers_below : Stmt := top 20
theorem sc__lessers_below : FnScope ["bound", "end"] ["bound", "end"] (defScope s__lessers_below) := ⟨rfl, rfl, rfl, by decide +kernel, rfl, by decide +kernel, by decide +kernel⟩
def sp__lessers_below (K : PySem.W.Frag) (cs : Cs) : Sp := fun vs H Q E => ∃ b e : Int, vs = [.int b, .int e] ∧ 1 ≤ b ∧ Sm 3000 b ∧ Sm 3000 e ∧ Q (.int (Th.cnt b e)) H
theorem ok__lessers_below {f : Addr} {fd : FuncData} (F : L2.Fun K "_lessers_below" "_lessers_below" s__lessers_below f fd) (T : Txt K mg cs)
    (c__times_root : C8.Cal P w K mg base 1 "_times_root" (sp__times_root K cs) []) : FnOk P w K mg base CX0 2 f fd ["bound", "end"] (sp__lessers_below K cs) := by
  refine F.ok sc__lessers_below (fun vs H Q E h => ?_) (fun cdv A outer s H vs Q E hr h => ?_)
  · obtain ⟨_, _, rfl, _⟩ := h
    rfl
  · obtain ⟨b, e, rfl, hb, sb, se, k⟩ := h
    refine ⟨_, (pss_one (ps_ret (pe_op op_fdivW (pe_op op_add (C8.pe_c c__times_root hr (by decide) (by rfl) (pa_cons (pv 0) (pa_cons (pv 1) pa_nil))) (pe_op op_mulX (pv 1) (pe_op op_sub (pv 0) pe_int))) (pe_op op_mulX pe_int (pv 0))))), ?_⟩
    have s1 : Sm 3001 (b - 2) := sm_sub sb (sm_mono (sm_lit (a := 3) (by decide)) (by decide))
    have s2 : Sm 3003 (2 * b) := sm_mul (sm_lit (a := 3) (by decide)) sb
    refine ⟨_, rfl, _, rfl, b, e, rfl, sb, se, _, rfl, _, rfl, _, _, rfl, rfl, _, _, rfl, rfl, mulx se s1, _, _, rfl, rfl, ?_⟩
    exact ⟨_, rfl, _, _, rfl, rfl, mulx (sm_lit (a := 3) (by decide)) sb, _, _, rfl, rfl, divw (by omega) s2, k⟩
-- _law_number: slots 0 cell, 1 k, 2 limit
abbrev s__law_number : Stmt := top 37
theorem sc__law_number : FnScope ["_law_cell", "_law_k", "_law_limit"] ["_law_cell", "_law_k", "_law_limit"] (defScope s__law_number) := ⟨rfl, rfl, rfl, by decide +kernel, rfl, by decide +kernel, by decide +kernel⟩
def sp__law_number (K : PySem.W.Frag) (cs : Cs) : Sp := fun vs H Q E => ∃ c k m : Int, vs = [.int c, .int k, .int m] ∧ Sm 1048577 c ∧ 0 ≤ k ∧ k ≤ 1000 ∧ 0 < m ∧ m ≤ 900000 ∧ ∀ r H', Evl.Ex H H' → 0 ≤ r → r < M40 → Q (.int r) H'
theorem ok__law_number {f : Addr} {fd : FuncData} (F : L2.Fun K "_law_number" "_law_number" s__law_number f fd) (T : Txt K mg cs)
    (c__law_draw : C8.Cal P w K mg base 1 "_law_draw" (sp__law_draw K cs) []) : FnOk P w K mg base CX0 2 f fd ["_law_cell", "_law_k", "_law_limit"] (sp__law_number K cs) := by
  refine F.ok sc__law_number (fun vs H Q E h => ?_) (fun cdv A outer s H vs Q E hr h => ?_)
  · obtain ⟨_, _, _, rfl, _⟩ := h
    rfl
  · obtain ⟨c, j, m, rfl, sc, h0, h1, hm, hm2, k⟩ := h
    refine ⟨_, (pss_cons (ps_if (pt_cmp (pc_ge (pv 0) (pe_op op_pow pe_int pe_int))) (pss_one (ps_ret (pe_op op_mod (pe_op op_sub (pv 0) (pe_op op_pow pe_int pe_int)) (pe_op op_pow pe_int pe_int)))) pss_nil) (pss_one (ps_ret (C8.pe_c c__law_draw hr (by decide) (by rfl) (pa_cons (pe_op op_mulX (pe_op op_add (pv 0) (pe_op op_mulX pe_int (pv 1))) (pe_op op_add (pe_op op_add (pv 0) (pe_op op_mulX pe_int (pv 1))) pe_int)) (pa_cons (pe_op op_add (pe_op op_mod (pv 1) pe_int) pe_int) (pa_cons (pv 2) pa_nil))))))), ?_⟩
    refine ⟨_, rfl, _, _, rfl, rfl, pow_ok (by decide) (by decide), _, _, rfl, rfl, _, rfl, ?_⟩
    refine if2 (fun _ => ?_) (fun _ => ?_)
    · refine ⟨_, rfl, _, _, rfl, rfl, pow_ok (by decide) (by decide), _, _, rfl, rfl, _, _, rfl, rfl, pow_ok (by decide) (by decide), _, _, rfl, rfl, (by show (0 : Int) < 10 ^ (40 : Int).toNat; rw [p40]; decide), ?_⟩
      exact k _ _ (Evl.Ex.refl H) (Int.emod_nonneg _ (by rw [p40]; decide)) (by have := Int.emod_lt_of_pos (c - 10 ^ (18 : Int).toNat) (show 0 < M40 by decide); rwa [p40])
    · have sj : Sm 20 j := by unfold Sm; omega
      have s1 : Sm 1048578 (c + 977 * j) := sm_add sc (sm_mono (sm_mul (sm_lit (a := 10) (by decide)) sj) (by decide))
      have s2 : Sm 1048579 (c + 31 * j + 5) := sm_add (sm_add sc (sm_mono (sm_mul (sm_lit (a := 10) (by decide)) sj) (by decide))) (sm_mono (sm_lit (a := 3) (by decide)) (by decide))
      refine ⟨_, rfl, _, rfl, _, _, rfl, rfl, mulx (sm_lit (a := 10) (by decide)) sj, _, _, rfl, rfl, _, rfl, _, rfl, _, _, rfl, rfl, mulx (sm_lit (a := 10) (by decide)) sj, _, _, rfl, rfl, _, _, rfl, rfl, _, _, rfl, rfl, mulx s1 s2, _, rfl, _, _, rfl, rfl, (by show (0 : Int) < 9; decide), _, _, rfl, rfl, _, rfl, ?_⟩
      refine ⟨_, _, _, rfl, sm_mono (sm_mul s1 s2) (by decide), (by unfold Sm; omega), (by omega), hm, fun r H1 e h3 h4 => k r H1 e h3 (by show r < M40; unfold M40; omega)⟩
-- _law_pair: slots 0 by, 1 at, 2 square, 3 least
abbrev s__law_pair : Stmt := top 39
theorem sc__law_pair : FnScope ["_law_by", "_law_at", "_law_square", "_law_least"] ["_law_by", "_law_at"] (defScope s__law_pair) := ⟨rfl, rfl, rfl, by decide +kernel, rfl, by decide +kernel, by decide +kernel⟩
def sp__law_pair (K : PySem.W.Frag) (cs : Cs) : Sp := fun vs H Q E => ∃ b n : Int, vs = [.int b, .int n] ∧ Sm 1000 b ∧ Sm 1000 n ∧ ∀ p H', Evl.Ex H H' → H' p = some (.tup [.int (Th.A b n), .int (Th.B b n)]) → Q (.ref p) H'
theorem ok__law_pair {f : Addr} {fd : FuncData} (F : L2.Fun K "_law_pair" "_law_pair" s__law_pair f fd) (T : Txt K mg cs)
    (c__law_root : C8.Cal P w K mg base 1 "_law_root" (sp__law_root K cs) []) : FnOk P w K mg base CX0 2 f fd ["_law_by", "_law_at"] (sp__law_pair K cs) := by
  refine F.ok sc__law_pair (fun vs H Q E h => ?_) (fun cdv A outer s H vs Q E hr h => ?_)
  · obtain ⟨_, _, rfl, _⟩ := h
    rfl
  · obtain ⟨b, n, rfl, sb, sn, k⟩ := h
    refine ⟨_, (pss_cons (ps_set (i := 2) sc__law_pair.nd rfl (Or.inl rfl) (pe_op op_mulX (pe_op op_mulX (pv 1) (pv 1)) (pe_op op_add (pe_op op_mulX (pv 0) (pv 0)) pe_int))) (pss_cons (ps_set (i := 3) sc__law_pair.nd rfl (Or.inl rfl) (pe_op op_fdivW (pe_op op_add (pe_op op_mulX (pv 1) (pe_op op_sub pe_int (pv 0))) (C8.pe_c c__law_root hr (by decide) (by rfl) (pa_cons (pv 2) pa_nil))) pe_int)) (pss_one (ps_ret (pe_tup (pa_cons (pv 3) (pa_cons (pe_op op_add (pv 3) (pe_op op_mulX (pv 0) (pv 1))) pa_nil))))))), ?_⟩
    have s1 := sm_mul sn sn
    have s2 := sm_mul sb sb
    have s3 : Sm 2001 (b * b + 4) := sm_add s2 (sm_mono (sm_lit (a := 3) (by decide)) (by decide))
    have s4 := sm_mul s1 s3
    have s5 : Sm 1001 (2 - b) := sm_sub (sm_mono (sm_lit (a := 3) (by decide)) (by decide)) sb
    refine ⟨_, rfl, _, rfl, _, _, rfl, rfl, mulx sn sn, _, rfl, _, rfl, _, _, rfl, rfl, mulx sb sb, _, _, rfl, rfl, _, _, rfl, rfl, mulx s1 s3, ?_⟩
    refine ⟨_, rfl, _, rfl, _, _, rfl, rfl, _, _, rfl, rfl, mulx sn s5, _, rfl, _, rfl, Th.D_nn b n, sm_mono s4 (by decide), _, _, rfl, rfl, _, _, rfl, rfl, divw (b := 3) (by decide) (sm_lit (by decide)), ?_⟩
    have e : (n * (2 - b) + Th.rt (n * n * (b * b + 4))) / 2 = Th.A b n := Th.law_least b n
    refine ⟨_, rfl, _, rfl, _, rfl, _, rfl, _, _, rfl, rfl, mulx sb sn, _, _, rfl, rfl, (by show 2 ≤ sizeLine; decide), fun p hp => ?_⟩
    refine k p _ (ex_new hp) ?_
    unfold Th.B
    rw [← e]
    exact upd_same
-- _law_is_pair: slots 0 found
abbrev s__law_is_pair : Stmt := top 45
theorem sc__law_is_pair : FnScope ["_law_found"] ["_law_found"] (defScope s__law_is_pair) := ⟨rfl, rfl, rfl, by decide +kernel, rfl, by decide +kernel, by decide +kernel⟩
def sp__law_is_pair (K : PySem.W.Frag) (cs : Cs) : Sp := fun vs H Q E => ∃ (p : Addr) (i j : Int), vs = [.ref p] ∧ H p = some (.tup [.int i, .int j]) ∧ Q (.bl true) H
theorem ok__law_is_pair {f : Addr} {fd : FuncData} (F : L2.Fun K "_law_is_pair" "_law_is_pair" s__law_is_pair f fd) (T : Txt K mg cs)
    (c__law_whole : C8.Cal P w K mg base 1 "_law_whole" (sp__law_whole K cs) []) : FnOk P w K mg base CX0 2 f fd ["_law_found"] (sp__law_is_pair K cs) := by
  refine F.ok sc__law_is_pair (fun vs H Q E h => ?_) (fun cdv A outer s H vs Q E hr h => ?_)
  · obtain ⟨_, _, _, rfl, _⟩ := h
    rfl
  · obtain ⟨p, i, j, rfl, hp, k⟩ := h
    refine ⟨_, (pss_one (ps_ret (pe_and (pe_callB cr_isB (by rfl) T.n_isinstance (by decide +kernel) (pa_cons (pv 0) (pa_cons (pe_bltn (v := .ty "tuple") (u := .type "tuple") (by rfl) T.n_tuple (by decide +kernel) rfl) pa_nil))) (pe_and (pe_cmp (pc_eqI (pe_callB call_len_seq (by rfl) T.n_len (by decide +kernel) (pa_cons (pv 0) pa_nil)) pe_int)) (pe_and (C8.pe_c c__law_whole hr (by decide) (by rfl) (pa_cons (pe_ix ix_tup (pv 0) pe_int (fun _ _ => rfl)) pa_nil)) (pe_one (C8.pe_c c__law_whole hr (by decide) (by rfl) (pa_cons (pe_ix ix_tup (pv 0) pe_int (fun _ _ => rfl)) pa_nil)))))))), ?_⟩
    exact ⟨_, rfl, _, "tuple", "tuple", true, rfl, .inr (.inr ⟨⟨p, _, rfl, hp⟩, rfl⟩), kb_tt, true, rfl, iteT ⟨_, rfl, p, _, rfl, .inr (SqT.of hp), _, _, rfl, rfl, true, rfl, iteT ⟨_, rfl, p, _, _, _, rfl, rfl, SqT.of hp, at0, i, rfl, true, rfl, iteT ⟨_, rfl, p, _, _, _, rfl, rfl, SqT.of hp, at1, j, rfl, k⟩⟩⟩⟩
-- are_heaps: slots 0 value
abbrev s_are_heaps : Stmt := top 11
theorem sc_are_heaps : FnScope ["value"] ["value"] (defScope s_are_heaps) := ⟨rfl, rfl, rfl, by decide +kernel, rfl, by decide +kernel, by decide +kernel⟩
def sp_are_heaps (K : PySem.W.Frag) (cs : Cs) : Sp := fun vs H Q E => ∃ (p : Addr) (i j : Int), vs = [.ref p] ∧ H p = some (.tup [.int i, .int j]) ∧ 0 ≤ i ∧ 0 ≤ j ∧ Q (.bl true) H
theorem ok_are_heaps {f : Addr} {fd : FuncData} (F : L2.Fun K "are_heaps" "are_heaps" s_are_heaps f fd) (T : Txt K mg cs)
    (c_is_pair : C8.Cal P w K mg base 2 "is_pair" (sp_is_pair K cs) []) : FnOk P w K mg base CX0 3 f fd ["value"] (sp_are_heaps K cs) := by
  refine F.ok sc_are_heaps (fun vs H Q E h => ?_) (fun cdv A outer s H vs Q E hr h => ?_)
  · obtain ⟨_, _, _, rfl, _⟩ := h
    rfl
  · obtain ⟨p, i, j, rfl, hp, hi, hj, k⟩ := h
    refine ⟨_, (pss_one (ps_ret (pe_and (C8.pe_c c_is_pair hr (by decide) (by rfl) (pa_cons (pv 0) pa_nil)) (pe_and (pe_cmp (pc_ge (pe_ix ix_tup (pv 0) pe_int (fun _ _ => rfl)) pe_int)) (pe_one (pe_cmp (pc_ge (pe_ix ix_tup (pv 0) pe_int (fun _ _ => rfl)) pe_int))))))), ?_⟩
    exact ⟨_, rfl, p, i, j, rfl, hp, true, rfl, iteT ⟨_, rfl, p, _, _, _, rfl, rfl, SqT.of hp, at0, _, _, rfl, rfl, _, rfl, ifT (decide_eq_true hi) ⟨_, rfl, p, _, _, _, rfl, rfl, SqT.of hp, at1, _, _, rfl, rfl, bt (Q := Q) (decide_eq_true hj) k⟩⟩⟩
-- check_bound: slots 0 bound
abbrev s_check_bound : Stmt := top 12
theorem sc_check_bound : FnScope ["bound"] ["bound"] (defScope s_check_bound) := ⟨rfl, rfl, rfl, by decide +kernel, rfl, by decide +kernel, by decide +kernel⟩
def sp_check_bound (K : PySem.W.Frag) (cs : Cs) : Sp := fun vs H Q E => ∃ i : Int, vs = [.int i] ∧ 1 ≤ i ∧ Q .non H
theorem ok_check_bound {f : Addr} {fd : FuncData} (F : L2.Fun K "check_bound" "check_bound" s_check_bound f fd) (T : Txt K mg cs)
    (c_is_bound : C8.Cal P w K mg base 2 "is_bound" (sp_is_bound K cs) []) : FnOk P w K mg base CX0 3 f fd ["bound"] (sp_check_bound K cs) := by
  refine F.ok sc_check_bound (fun vs H Q E h => ?_) (fun cdv A outer s H vs Q E hr h => ?_)
  · obtain ⟨_, rfl, _⟩ := h
    rfl
  · obtain ⟨i, rfl, hi, k⟩ := h
    refine ⟨_, (pss_one (ps_if (pt_not (pt_val (C8.pe_c c_is_bound hr (by decide) (by rfl) (pa_cons (pv 0) pa_nil)))) (pss_one (ps_never)) pss_nil)), ?_⟩
    refine ⟨_, rfl, i, rfl, _, rfl, ?_⟩
    exact ifF (by rw [decide_eq_true hi]; rfl) k
-- _law_lost: slots 0 by, 1 both, 2 low, 3 high, 4 apart
abbrev s__law_lost : Stmt := top 40
theorem sc__law_lost : FnScope ["_law_by", "_law_both", "_law_low", "_law_high", "_law_apart"] ["_law_by", "_law_both"] (defScope s__law_lost) := ⟨rfl, rfl, rfl, by decide +kernel, rfl, by decide +kernel, by decide +kernel⟩
def sp__law_lost (K : PySem.W.Frag) (cs : Cs) : Sp := fun vs H Q E => ∃ (b : Int) (p : Addr) (i j : Int), vs = [.int b, .ref p] ∧ H p = some (.tup [.int i, .int j]) ∧ 1 ≤ b ∧ Sm 900 b ∧ Sm 900 i ∧ Sm 900 j ∧ ∀ H', Evl.Ex H H' → Q (.bl (Th.nof b i j).isSome) H'
theorem ok__law_lost {f : Addr} {fd : FuncData} (F : L2.Fun K "_law_lost" "_law_lost" s__law_lost f fd) (T : Txt K mg cs)
    (c__law_pair : C8.Cal P w K mg base 2 "_law_pair" (sp__law_pair K cs) []) : FnOk P w K mg base CX0 3 f fd ["_law_by", "_law_both"] (sp__law_lost K cs) := by
  refine F.ok sc__law_lost (fun vs H Q E h => ?_) (fun cdv A outer s H vs Q E hr h => ?_)
  · obtain ⟨_, _, _, _, rfl, _⟩ := h
    rfl
  · obtain ⟨b, p, i, j, rfl, hp, hb, sb, si, sj, k⟩ := h
    refine ⟨_, (pss_cons (ps_par (i := 2) (j := 3) (by rfl) sc__law_lost.nd rfl rfl (by decide) rfl rfl (pa_cons (pe_callB (cr_minT rfl hr.units) (by rfl) T.n_min (by decide +kernel) (pa_cons (pv 1) pa_nil)) (pa_cons (pe_callB (cr_maxT rfl hr.units) (by rfl) T.n_max (by decide +kernel) (pa_cons (pv 1) pa_nil)) pa_nil)) (by rfl)) (pss_cons (ps_set (i := 4) sc__law_lost.nd rfl (Or.inl rfl) (pe_op op_sub (pv 3) (pv 2))) (pss_one (ps_ret (pe_and (pe_cmp (pc_eqI (pe_op op_mod (pv 4) (pv 0)) pe_int)) (pe_one (pe_cmpR (op_eqP hr.units) (C8.pe_c c__law_pair hr (by decide) (by rfl) (pa_cons (pv 0) (pa_cons (pe_op op_fdivW (pv 4) (pv 0)) pa_nil))) (pe_pair (pv 2) (pv 3)) (nomark _)))))))), ?_⟩
    have kk : ∀ c H', Evl.Ex H H' → (decide ((max i j - min i j) % b = 0) && decide (Th.A b ((max i j - min i j) / b) = min i j ∧ Th.B b ((max i j - min i j) / b) = max i j)) = c → Q (.bl c) H' := fun c H' e h => bq (Q := Q) (h.symm.trans (nof_bl hb)) (k H' e)
    have a0 : 0 ≤ max i j - min i j := by omega
    have sx : Sm 902 (max i j - min i j) := sm_mono (sm_abs (sm_ab (sm_sub si sj)) (by rcases Th.ab_def (i - j) with h | h <;> omega)) (by decide)
    have d0 : 0 ≤ (max i j - min i j) / b := Int.ediv_nonneg a0 (by omega)
    have sd : Sm 902 ((max i j - min i j) / b) := sm_le sx d0 (Int.ediv_le_self _ a0)
    refine ⟨_, rfl, p, i, j, rfl, hp, _, rfl, p, i, j, rfl, hp, _, _, rfl, ?_⟩
    refine ⟨_, rfl, _, rfl, _, _, rfl, rfl, ?_⟩
    refine ⟨_, rfl, _, rfl, _, _, rfl, rfl, (by show 0 < b; omega), _, _, rfl, rfl, _, rfl, if2 (fun c => ?_) (fun c => kk _ _ (Evl.Ex.refl H) ?_)⟩
    · refine ⟨_, rfl, _, rfl, _, rfl, _, _, rfl, rfl, divw (by omega) sb, b, (max i j - min i j) / b, rfl, sm_mono sb (by decide), sm_mono sd (by decide), fun q H1 e1 hq => ?_⟩
      refine ⟨_, rfl, _, rfl, _, _, rfl, fun r H2 e2 hr => ⟨q, r, _, _, _, _, rfl, rfl, e2 _ _ hq, hr, kk _ _ (e1.trans e2) ?_⟩⟩
      have c' : decide ((max i j - min i j) % b = 0) = true := c
      rw [c', Bool.true_and]
    · have c' : decide ((max i j - min i j) % b = 0) = false := c
      rw [c', Bool.false_and]
-- _law_bound: slots 0 script, 1 k, 2 cell, 3 number_here
abbrev s__law_bound : Stmt := top 42
theorem sc__law_bound : FnScope ["_law_script", "_law_k", "_law_cell", "_law_number_here"] ["_law_script", "_law_k"] (defScope s__law_bound) := ⟨rfl, rfl, rfl, by decide +kernel, rfl, by decide +kernel, by decide +kernel⟩
def sp__law_bound (K : PySem.W.Frag) (cs : Cs) : Sp := fun vs H Q E => ∃ (a : Addr) (ns : List Int) (k : Int), vs = [.ref a, .int k] ∧ SqL K H a (ns.map V.int) ∧ CellsSm ns ∧ 0 ≤ k ∧ k ≤ 900 ∧ ∀ b H', Evl.Ex H H' → 1 ≤ b → b ≤ M40 → Q (.int b) H'
theorem ok__law_bound {f : Addr} {fd : FuncData} (F : L2.Fun K "_law_bound" "_law_bound" s__law_bound f fd) (T : Txt K mg cs)
    (c__law_cell_at : C8.Cal P w K mg base 1 "_law_cell_at" (sp__law_cell_at K cs) [])
    (c__law_draw : C8.Cal P w K mg base 1 "_law_draw" (sp__law_draw K cs) [])
    (c__law_number : C8.Cal P w K mg base 2 "_law_number" (sp__law_number K cs) []) : FnOk P w K mg base CX0 3 f fd ["_law_script", "_law_k"] (sp__law_bound K cs) := by
  refine F.ok sc__law_bound (fun vs H Q E h => ?_) (fun cdv A outer s H vs Q E hr h => ?_)
  · obtain ⟨_, _, _, rfl, _⟩ := h
    rfl
  · obtain ⟨a, ns, j, rfl, hs, hz, h0, h1, k⟩ := h
    refine ⟨_, (pss_cons (ps_set (i := 2) sc__law_bound.nd rfl (Or.inl rfl) (C8.pe_c c__law_cell_at hr (by decide) (by rfl) (pa_cons (pv 0) (pa_cons (pe_op op_add (pv 1) pe_int) pa_nil)))) (pss_cons (ps_set (i := 3) sc__law_bound.nd rfl (Or.inl rfl) (C8.pe_c c__law_number hr (by decide) (by rfl) (pa_cons (pv 2) (pa_cons (pv 1) (pa_cons pe_int pa_nil))))) (pss_one (ps_ret (pe_ix ix_tup (pe_tup (pa_cons pe_int (pa_cons pe_int (pa_cons (pe_op op_add pe_int (pe_op op_mod (pv 3) pe_int)) (pa_cons (pe_op op_add pe_int (pe_op op_mod (pv 3) pe_int)) (pa_cons (pe_op op_add pe_int (pv 3)) pa_nil)))))) (C8.pe_c c__law_draw hr (by decide) (by rfl) (pa_cons (pe_op op_add (pe_op op_mod (pv 2) (pe_op op_pow pe_int pe_int)) (pe_op op_mulX pe_int (pv 1))) (pa_cons pe_int (pa_cons pe_int pa_nil)))) (fun _ _ => rfl)))))), ?_⟩
    refine ⟨_, rfl, _, rfl, _, _, rfl, rfl, a, ns, _, rfl, hs, (by omega), ?_⟩
    have sc := sm_cell hz (j + 1).toNat
    generalize ns.getD (j + 1).toNat 0 = c at *
    refine ⟨_, rfl, _, rfl, c, j, 900000, rfl, sc, h0, (by omega), (by decide), (by decide), fun n H1 e1 n0 n1 => ?_⟩
    have sj : Sm 20 j := by unfold Sm; omega
    have sm18 : Sm 100 (c % 10 ^ (18 : Int).toNat) := by
      have i1 := Int.emod_nonneg c (show M18 ≠ 0 by decide)
      have i2 := Int.emod_lt_of_pos c (show 0 < M18 by decide)
      rw [p18]
      unfold Sm
      omega
    refine ⟨_, rfl, _, _, rfl, rfl, (by show (0 : Int) < 9; decide), _, _, rfl, rfl, _, rfl, _, _, rfl, rfl, (by show (0 : Int) < 1000; decide), _, _, rfl, rfl, _, rfl, _, _, rfl, rfl, (by show 5 ≤ sizeLine; decide), fun p hp => ?_⟩
    refine ⟨_, rfl, _, _, rfl, rfl, pow_ok (by decide) (by decide), _, _, rfl, rfl, (by show (0 : Int) < 10 ^ (18 : Int).toNat; rw [p18]; decide), _, rfl, _, _, rfl, rfl, mulx (sm_lit (a := 10) (by decide)) sj, _, _, rfl, rfl, ?_⟩
    refine ⟨_, 5, 5, rfl, sm_mono (sm_add sm18 (sm_mono (sm_mul (sm_lit (a := 10) (by decide)) sj) (by decide))) (by decide), sm_mono (sm_lit (a := 3) (by decide)) (by decide), (by decide), (by decide), fun r H2 e2 r0 r1 => ?_⟩
    obtain ⟨v, hv, hmem⟩ := at_in (xs := [.int 1, .int 2, .int (1 + n % 9), .int (1 + n % 1000), .int (1 + n)]) r0 (by show r < 5; exact r1)
    obtain ⟨z, rfl, hz1, hz2⟩ : ∃ z : Int, v = .int z ∧ 1 ≤ z ∧ z ≤ M40 := by
      simp only [List.mem_cons, List.not_mem_nil, or_false] at hmem
      rcases hmem with h | h | h | h | h
      · exact ⟨_, h, by decide, by decide⟩
      · exact ⟨_, h, by decide, by decide⟩
      · exact ⟨_, h, by omega, by show _ ≤ M40; omega⟩
      · exact ⟨_, h, by omega, by show _ ≤ M40; omega⟩
      · exact ⟨_, h, by omega, by show _ ≤ M40; omega⟩
    exact ⟨p, _, _, _, rfl, rfl, SqT.of (e2 p _ upd_same), hv, k _ _ (e1.trans ((ex_new hp).trans e2)) hz1 hz2⟩
-- _law_heaps: slots 0 script, 1 k, 2 bound_here, 3 cell, 4 kind, 5 limit, 6 mine, 7 theirs
abbrev s__law_heaps : Stmt := top 43
theorem sc__law_heaps : FnScope ["_law_script", "_law_k", "_law_bound_here", "_law_cell", "_law_kind", "_law_limit", "_law_mine", "_law_theirs"] ["_law_script", "_law_k", "_law_bound_here"] (defScope s__law_heaps) := ⟨rfl, rfl, rfl, by decide +kernel, rfl, by decide +kernel, by decide +kernel⟩
def sp__law_heaps (K : PySem.W.Frag) (cs : Cs) : Sp := fun vs H Q E => ∃ (a : Addr) (ns : List Int) (k b : Int), vs = [.ref a, .int k, .int b] ∧ SqL K H a (ns.map V.int) ∧ CellsSm ns ∧ 0 ≤ k ∧ k ≤ 900 ∧ 1 ≤ b ∧ b ≤ M40 ∧ ∀ q i j H', Evl.Ex H H' → H' q = some (.tup [.int i, .int j]) → 0 ≤ i → 0 ≤ j → Sm 300 i → Sm 300 j → Q (.ref q) H'
theorem ok__law_heaps {f : Addr} {fd : FuncData} (F : L2.Fun K "_law_heaps" "_law_heaps" s__law_heaps f fd) (T : Txt K mg cs)
    (c__law_cell_at : C8.Cal P w K mg base 1 "_law_cell_at" (sp__law_cell_at K cs) [])
    (c__law_draw : C8.Cal P w K mg base 1 "_law_draw" (sp__law_draw K cs) [])
    (c__law_number : C8.Cal P w K mg base 2 "_law_number" (sp__law_number K cs) [])
    (c__law_pair : C8.Cal P w K mg base 2 "_law_pair" (sp__law_pair K cs) []) : FnOk P w K mg base CX0 3 f fd ["_law_script", "_law_k", "_law_bound_here"] (sp__law_heaps K cs) := by
  refine F.ok sc__law_heaps (fun vs H Q E h => ?_) (fun cdv A outer s H vs Q E hr h => ?_)
  · obtain ⟨_, _, _, _, rfl, _⟩ := h
    rfl
  · obtain ⟨a, ns, j, b, rfl, hs, hz, h0, h1, hb, hb2, k⟩ := h
    refine ⟨_, (pss_cons (ps_set (i := 3) sc__law_heaps.nd rfl (Or.inl rfl) (C8.pe_c c__law_cell_at hr (by decide) (by rfl) (pa_cons (pv 0) (pa_cons (pv 1) pa_nil)))) (pss_cons (ps_set (i := 4) sc__law_heaps.nd rfl (Or.inl rfl) (C8.pe_c c__law_draw hr (by decide) (by rfl) (pa_cons (pe_op op_add (pe_op op_mod (pv 3) (pe_op op_pow pe_int pe_int)) (pe_op op_mulX pe_int (pv 1))) (pa_cons pe_int (pa_cons pe_int pa_nil))))) (pss_cons (ps_set (i := 5) sc__law_heaps.nd rfl (Or.inl rfl) (pe_ix ix_tup (pe_tup (pa_cons pe_int (pa_cons pe_int (pa_cons pe_int pa_nil)))) (C8.pe_c c__law_draw hr (by decide) (by rfl) (pa_cons (pe_op op_mod (pv 3) (pe_op op_pow pe_int pe_int)) (pa_cons pe_int (pa_cons pe_int pa_nil)))) (fun _ _ => rfl))) (pss_cons (ps_par (i := 6) (j := 7) (by rfl) sc__law_heaps.nd rfl rfl (by decide) rfl rfl (pa_cons (C8.pe_c c__law_number hr (by decide) (by rfl) (pa_cons (pv 3) (pa_cons (pv 1) (pa_cons (pv 5) pa_nil)))) (pa_cons (C8.pe_c c__law_number hr (by decide) (by rfl) (pa_cons (C8.pe_c c__law_cell_at hr (by decide) (by rfl) (pa_cons (pv 0) (pa_cons (pe_op op_add (pv 1) pe_int) pa_nil))) (pa_cons (pe_op op_add (pv 1) pe_int) (pa_cons (pv 5) pa_nil)))) pa_nil)) (by rfl)) (C8.pss_cut (ps_if (pt_cmp (pc_gt (pv 4) pe_int)) (pss_one (ps_asg (C8.pe_c c__law_pair hr (by decide) (by rfl) (pa_cons (pv 2) (pa_cons (pv 6) pa_nil))) (pg_tup rfl (pgs_cons (pg_name (i := 6) sc__law_heaps.nd rfl (Or.inl rfl)) (pgs_cons (pg_name (i := 7) sc__law_heaps.nd rfl (Or.inl rfl)) pgs_nil))))) pss_nil) (C8.pss_cut (ps_if (pt_cmp (pc_eqI (pv 4) pe_int)) (pss_one (ps_set (i := 7) sc__law_heaps.nd rfl (Or.inl rfl) (pe_op op_add (pv 7) pe_int))) pss_nil) (C8.pss_cut (ps_if (pt_cmp (pc_eqI (pv 4) pe_int)) (pss_one (ps_par (i := 6) (j := 7) (by rfl) sc__law_heaps.nd rfl rfl (by decide) rfl rfl (pa_cons (pe_op op_add (pe_op op_add (pv 6) pe_int) (pe_op op_mod (pv 5) pe_int)) (pa_cons (pe_op op_add (pe_op op_add (pv 7) pe_int) (pe_op op_mod (pv 5) pe_int)) pa_nil)) (by rfl))) pss_nil) (C8.pss_cut (ps_if (pt_cmp (pc_eqI (pv 4) pe_int)) (pss_one (ps_set (i := 6) sc__law_heaps.nd rfl (Or.inl rfl) (pe_callB (call_max2 rfl) (by rfl) T.n_max (by decide +kernel) (pa_cons pe_int (pa_cons (pe_op op_sub (pv 6) pe_int) pa_nil))))) pss_nil) (pss_one (ps_ret (pe_ifExp (pt_cmp (pc_eqI (C8.pe_c c__law_draw hr (by decide) (by rfl) (pa_cons (pe_op op_add (pe_op op_mod (pv 3) (pe_op op_pow pe_int pe_int)) (pv 1)) (pa_cons pe_int (pa_cons pe_int pa_nil)))) pe_int)) (pe_pair (pv 6) (pv 7)) (pe_pair (pv 7) (pv 6))))))))))))), ?_⟩
    have sb : Sm 134 b := sm_m40 (by omega) hb2
    have sj : Sm 20 j := by unfold Sm; omega
    refine ⟨_, rfl, _, rfl, a, ns, j, rfl, hs, h0, ?_⟩
    have sc := sm_cell hz j.toNat
    generalize ns.getD j.toNat 0 = c at *
    have sd : Sm 101 (c % 10 ^ (18 : Int).toNat + 977 * j) := sm_add (sm_mod18 c) (sm_mono (sm_mul (sm_lit (a := 10) (by decide)) sj) (by decide))
    -- the kind
    refine ⟨_, rfl, _, _, rfl, rfl, pow_ok (by decide) (by decide), _, _, rfl, rfl, p18_pos, _, rfl, _, _, rfl, rfl, mulx (sm_lit (a := 10) (by decide)) sj, _, _, rfl, rfl, _, 6, 7, rfl, sm_mono sd (by decide), sm_lit (by decide), (by decide), (by decide), fun kd H1 e1 _ _ => ?_⟩
    -- the limit
    refine ⟨(by show 3 ≤ sizeLine; decide), fun q hq => ?_⟩
    refine ⟨_, rfl, _, _, rfl, rfl, pow_ok (by decide) (by decide), _, _, rfl, rfl, p18_pos, _, 7, 3, rfl, sm_mono (sm_mod18 c) (by decide), sm_lit (by decide), (by decide), (by decide), fun r H2 e2 r0 r1 => ?_⟩
    obtain ⟨v, hv, hmem⟩ := at_in (xs := [.int 9, .int 200, .int 900000]) r0 (by show r < 3; exact r1)
    obtain ⟨m, rfl, m0, m1⟩ : ∃ m : Int, v = .int m ∧ 0 < m ∧ m ≤ 900000 := by
      simp only [List.mem_cons, List.not_mem_nil, or_false] at hmem
      rcases hmem with h | h | h
      · exact ⟨_, h, by decide, by decide⟩
      · exact ⟨_, h, by decide, by decide⟩
      · exact ⟨_, h, by decide, by decide⟩
    refine ⟨q, _, _, _, rfl, rfl, SqT.of (e2 _ _ upd_same), hv, ?_⟩
    have e12 : Evl.Ex H H2 := e1.trans ((ex_new hq).trans e2)
    -- the two numbers
    refine ⟨_, rfl, _, rfl, _, rfl, c, j, m, rfl, sc, h0, (by omega), m0, m1, fun x H3 e3 x0 x1 => ?_⟩
    refine ⟨_, rfl, _, rfl, _, _, rfl, rfl, a, ns, j + 2, rfl, Evl.ex_l (e12.trans e3) hs, (by omega), ?_⟩
    have sc2 := sm_cell hz (j + 2).toNat
    generalize ns.getD (j + 2).toNat 0 = c2 at *
    refine ⟨_, rfl, _, _, rfl, rfl, _, rfl, c2, j + 3, m, rfl, sc2, (by omega), (by omega), m0, m1, fun y H4 e4 y0 y1 => ⟨_, _, rfl, ?_⟩⟩
    have e14 : Evl.Ex H H4 := e12.trans (e3.trans e4)
    have sx : Sm 134 x := sm_m40 x0 (by omega)
    have sy : Sm 134 y := sm_m40 y0 (by omega)
    -- a lost pair
    refine ⟨fun σ H' => ∃ (x y : Int) (l : Option V), σ = [some (.ref a), some (.int j), some (.int b), some (.int c), some (.int kd), some (.int m), some (.int x), some (.int y)] ∧ Evl.Ex H H' ∧ 0 ≤ x ∧ 0 ≤ y ∧ Sm 290 x ∧ Sm 290 y, ?_, ?_⟩
    · refine ⟨_, rfl, _, _, rfl, rfl, _, rfl, if2 (fun _ => ?_) (fun _ => ⟨x, y, none, rfl, e14, x0, y0, sm_mono sx (by decide), sm_mono sy (by decide)⟩)⟩
      have gA := Th.A_ge hb x0
      have lA := Th.A_le hb x0
      have lB := Th.B_le hb x0
      have gB := Th.B_ge hb x0
      have sA : Sm 290 (Th.A b x) := sm_mono (sm_le (sm_mul (sm_lit (a := 3) (by decide)) sx) (by omega) lA) (by decide)
      have sB : Sm 290 (Th.B b x) := sm_mono (sm_le (sm_mul (sm_add sb (sm_mono (sm_lit (a := 3) (by decide)) (by decide))) sx) gB lB) (by decide)
      exact ⟨_, rfl, _, rfl, b, x, rfl, sm_mono sb (by decide), sm_mono sx (by decide), fun p H5 e5 hp => ⟨p, _, rfl, SqT.of hp, rfl, _, _, rfl, _, _, rfl, rfl, _, _, none, rfl, e14.trans e5, by omega, gB, sA, sB⟩⟩
    rintro σ H5 ⟨x, y, l, rfl, e5, x0, y0, sx, sy⟩
    -- one beside
    refine ⟨fun σ H' => ∃ (x y : Int), σ = [some (.ref a), some (.int j), some (.int b), some (.int c), some (.int kd), some (.int m), some (.int x), some (.int y)] ∧ Evl.Ex H H' ∧ 0 ≤ x ∧ 0 ≤ y ∧ Sm 291 x ∧ Sm 291 y, ?_, ?_⟩
    · refine ⟨_, rfl, _, _, rfl, rfl, _, rfl, if2 (fun _ => ?_) (fun _ => ⟨x, y, rfl, e5, x0, y0, sm_mono sx (by decide), sm_mono sy (by decide)⟩)⟩
      exact ⟨_, rfl, _, _, rfl, rfl, x, y + 1, rfl, e5, x0, by omega, sm_mono sx (by decide), sm_add sy (sm_mono (sm_lit (a := 1) (by decide)) (by decide))⟩
    rintro σ H6 ⟨x, y, rfl, e6, x0, y0, sx, sy⟩
    -- more on both alike
    have s7 : Sm 3 (m % 7) := by
      have := Int.emod_nonneg m (show (7 : Int) ≠ 0 by decide)
      have := Int.emod_lt_of_pos m (show (0 : Int) < 7 by decide)
      unfold Sm
      omega
    have p7 := Int.emod_nonneg m (show (7 : Int) ≠ 0 by decide)
    refine ⟨fun σ H' => ∃ (x y : Int), σ = [some (.ref a), some (.int j), some (.int b), some (.int c), some (.int kd), some (.int m), some (.int x), some (.int y)] ∧ Evl.Ex H H' ∧ 0 ≤ x ∧ 0 ≤ y ∧ Sm 293 x ∧ Sm 293 y, ?_, ?_⟩
    · refine ⟨_, rfl, _, _, rfl, rfl, _, rfl, if2 (fun _ => ?_) (fun _ => ⟨x, y, rfl, e6, x0, y0, sm_mono sx (by decide), sm_mono sy (by decide)⟩)⟩
      refine ⟨_, rfl, _, _, rfl, rfl, _, rfl, _, _, rfl, rfl, (by show (0 : Int) < 7; decide), _, _, rfl, rfl, _, rfl, _, _, rfl, rfl, _, rfl, _, _, rfl, rfl, (by show (0 : Int) < 7; decide), _, _, rfl, rfl, _, _, rfl, ?_⟩
      exact ⟨x + 1 + m % 7, y + 1 + m % 7, rfl, e6, by omega, by omega, sm_add (sm_add sx (sm_mono (sm_lit (a := 1) (by decide)) (by decide))) (sm_mono s7 (by decide)), sm_add (sm_add sy (sm_mono (sm_lit (a := 1) (by decide)) (by decide))) (sm_mono s7 (by decide))⟩
    rintro σ H7 ⟨x, y, rfl, e7, x0, y0, sx, sy⟩
    -- one less
    refine ⟨fun σ H' => ∃ (x y : Int), σ = [some (.ref a), some (.int j), some (.int b), some (.int c), some (.int kd), some (.int m), some (.int x), some (.int y)] ∧ Evl.Ex H H' ∧ 0 ≤ x ∧ 0 ≤ y ∧ Sm 300 x ∧ Sm 300 y, ?_, ?_⟩
    · refine ⟨_, rfl, _, _, rfl, rfl, _, rfl, if2 (fun _ => ?_) (fun _ => ⟨x, y, rfl, e7, x0, y0, sm_mono sx (by decide), sm_mono sy (by decide)⟩)⟩
      refine ⟨_, rfl, _, _, rfl, rfl, _, _, rfl, (if x - 1 > 0 then x - 1 else 0), y, rfl, e7, by split <;> omega, y0, sm_mono (sm_le sx (by split <;> omega) (by split <;> omega)) (by decide), sm_mono sy (by decide)⟩
    rintro σ H8 ⟨x, y, rfl, e8, x0, y0, sx, sy⟩
    refine ⟨_, rfl, _, _, rfl, rfl, pow_ok (by decide) (by decide), _, _, rfl, rfl, p18_pos, _, rfl, _, _, rfl, rfl, _, 4, 2, rfl, sm_mono (sm_add (sm_mod18 c) (sm_mono sj (by decide))) (by decide), sm_lit (by decide), (by decide), (by decide), fun r H9 e9 _ _ => ⟨_, _, rfl, rfl, _, rfl, if2 (fun _ => ?_) (fun _ => ?_)⟩⟩
    · exact ⟨_, rfl, _, rfl, _, _, rfl, fun q H10 e10 hq => k q x y _ (e8.trans (e9.trans e10)) hq x0 y0 sx sy⟩
    · exact ⟨_, rfl, _, rfl, _, _, rfl, fun q H10 e10 hq => k q y x _ (e8.trans (e9.trans e10)) hq y0 x0 sy sx⟩
-- check_heaps: slots 0 heaps
abbrev s_check_heaps : Stmt := top 13
theorem sc_check_heaps : FnScope ["heaps"] ["heaps"] (defScope s_check_heaps) := ⟨rfl, rfl, rfl, by decide +kernel, rfl, by decide +kernel, by decide +kernel⟩
def sp_check_heaps (K : PySem.W.Frag) (cs : Cs) : Sp := fun vs H Q E => ∃ (p : Addr) (i j : Int), vs = [.ref p] ∧ H p = some (.tup [.int i, .int j]) ∧ 0 ≤ i ∧ 0 ≤ j ∧ Q .non H
theorem ok_check_heaps {f : Addr} {fd : FuncData} (F : L2.Fun K "check_heaps" "check_heaps" s_check_heaps f fd) (T : Txt K mg cs)
    (c_are_heaps : C8.Cal P w K mg base 3 "are_heaps" (sp_are_heaps K cs) []) : FnOk P w K mg base CX0 4 f fd ["heaps"] (sp_check_heaps K cs) := by
  refine F.ok sc_check_heaps (fun vs H Q E h => ?_) (fun cdv A outer s H vs Q E hr h => ?_)
  · obtain ⟨_, _, _, rfl, _⟩ := h
    rfl
  · obtain ⟨p, i, j, rfl, hp, hi, hj, k⟩ := h
    refine ⟨_, (pss_one (ps_if (pt_not (pt_val (C8.pe_c c_are_heaps hr (by decide) (by rfl) (pa_cons (pv 0) pa_nil)))) (pss_one (ps_never)) pss_nil)), ?_⟩
    exact ⟨_, rfl, p, i, j, rfl, hp, hi, hj, true, rfl, iteF k⟩
-- pair_by: slots 0 bound, 1 number, 2 lesser
abbrev s_pair_by : Stmt := top 16
theorem sc_pair_by : FnScope ["bound", "number", "lesser"] ["bound", "number"] (defScope s_pair_by) := ⟨rfl, rfl, rfl, by decide +kernel, rfl, by decide +kernel, by decide +kernel⟩
def sp_pair_by (K : PySem.W.Frag) (cs : Cs) : Sp := fun vs H Q E => ∃ b n : Int, vs = [.int b, .int n] ∧ 1 ≤ b ∧ 0 ≤ n ∧ Sm 3000 b ∧ Sm 3000 n ∧ ∀ p H', Evl.Ex H H' → H' p = some (.tup [.int (Th.A b n), .int (Th.B b n)]) → Q (.ref p) H'
theorem ok_pair_by {f : Addr} {fd : FuncData} (F : L2.Fun K "pair_by" "pair_by" s_pair_by f fd) (T : Txt K mg cs)
    (c__times_root : C8.Cal P w K mg base 1 "_times_root" (sp__times_root K cs) [])
    (c_check_number : C8.Cal P w K mg base 2 "check_number" (sp_check_number K cs) [])
    (c_check_bound : C8.Cal P w K mg base 3 "check_bound" (sp_check_bound K cs) []) : FnOk P w K mg base CX0 4 f fd ["bound", "number"] (sp_pair_by K cs) := by
  refine F.ok sc_pair_by (fun vs H Q E h => ?_) (fun cdv A outer s H vs Q E hr h => ?_)
  · obtain ⟨_, _, rfl, _⟩ := h
    rfl
  · obtain ⟨b, n, rfl, hb, hn, sb, sn, k⟩ := h
    refine ⟨_, (pss_cons (ps_expr (C8.pe_c c_check_bound hr (by decide) (by rfl) (pa_cons (pv 0) pa_nil))) (pss_cons (ps_expr (C8.pe_c c_check_number hr (by decide) (by rfl) (pa_cons (pv 1) (pa_cons pe_int pa_nil)))) (pss_cons (ps_set (i := 2) sc_pair_by.nd rfl (Or.inl rfl) (pe_op op_fdivW (pe_op op_sub (C8.pe_c c__times_root hr (by decide) (by rfl) (pa_cons (pv 0) (pa_cons (pv 1) pa_nil))) (pe_op op_mulX (pv 1) (pe_op op_sub (pv 0) pe_int))) pe_int)) (pss_one (ps_ret (pe_tup (pa_cons (pv 2) (pa_cons (pe_op op_add (pv 2) (pe_op op_mulX (pv 0) (pv 1))) pa_nil)))))))), ?_⟩
    refine ⟨_, rfl, b, rfl, hb, _, rfl, n, 0, rfl, hn, ?_⟩
    have s1 : Sm 3001 (b - 2) := sm_sub sb (sm_mono (sm_lit (a := 3) (by decide)) (by decide))
    refine ⟨_, rfl, _, rfl, b, n, rfl, sb, sn, _, rfl, _, rfl, _, _, rfl, rfl, _, _, rfl, rfl, mulx sn s1, _, _, rfl, rfl, _, _, rfl, rfl, divw (b := 3) (by decide) (sm_lit (by decide)), ?_⟩
    exact ⟨_, rfl, _, rfl, _, rfl, _, rfl, _, _, rfl, rfl, mulx sb sn, _, _, rfl, rfl, (by show 2 ≤ sizeLine; decide), fun p hp => k p _ (ex_new hp) upd_same⟩
-- _law_due: slots 0 bound_here, 1 heaps_here, 2 found
abbrev s__law_due : Stmt := top 47
theorem sc__law_due : FnScope ["_law_bound_here", "_law_heaps_here", "_law_found"] ["_law_bound_here", "_law_heaps_here", "_law_found"] (defScope s__law_due) := ⟨rfl, rfl, rfl, by decide +kernel, rfl, by decide +kernel, by decide +kernel⟩
def sp__law_due (K : PySem.W.Frag) (cs : Cs) : Sp := fun vs H Q E => ∃ (b : Int) (p : Addr) (i j : Int) (x : Addr) (f : Int → Int → Int → Bool), vs = [.int b, .ref p, .ref x] ∧ H p = some (.tup [.int i, .int j]) ∧ 1 ≤ b ∧ 0 ≤ i ∧ 0 ≤ j ∧ Sm 310 b ∧ Sm 310 i ∧ Sm 310 j ∧ Tells cs H x f ∧ ∀ H', Evl.Ex H H' → Q (.bl (f b i j)) H'
theorem ok__law_due {f : Addr} {fd : FuncData} (F : L2.Fun K "_law_due" "_law_due" s__law_due f fd) (T : Txt K mg cs)
    (c__law_may : C8.Cal P w K mg base 1 "_law_may" (sp__law_may K cs) [])
    (c__law_pair : C8.Cal P w K mg base 2 "_law_pair" (sp__law_pair K cs) [])
    (c__law_lost : C8.Cal P w K mg base 3 "_law_lost" (sp__law_lost K cs) []) : FnOk P w K mg base CX0 4 f fd ["_law_bound_here", "_law_heaps_here", "_law_found"] (sp__law_due K cs) := by
  refine F.ok sc__law_due (fun vs H Q E h => ?_) (fun cdv A outer s H vs Q E hr h => ?_)
  · obtain ⟨_, _, _, _, _, _, rfl, _⟩ := h
    rfl
  · obtain ⟨b, p, i, j, x, f, rfl, hp, hb, hi, hj, sb, si, sj, ht, k⟩ := h
    refine ⟨_, (pss_cons (ps_if (pt_val (pe_callB cr_isO (by rfl) T.n_isinstance (by decide +kernel) (pa_cons (pv 2) (pa_cons (pe_glob (v := .ref cs.c_Lost) (by rfl) T.g_Lost rfl) pa_nil)))) (pss_one (ps_ret (pe_cmpR (op_eqP hr.units) (C8.pe_c c__law_pair hr (by decide) (by rfl) (pa_cons (pv 0) (pa_cons (pe_fld (pv 2) rfl) pa_nil))) (pe_pair (pe_callB (cr_minT rfl hr.units) (by rfl) T.n_min (by decide +kernel) (pa_cons (pv 1) pa_nil)) (pe_callB (cr_maxT rfl hr.units) (by rfl) T.n_max (by decide +kernel) (pa_cons (pv 1) pa_nil))) (nomark _)))) pss_nil) (pss_cons (ps_if (pt_not (pt_val (C8.pe_c c__law_may hr (by decide) (by rfl) (pa_cons (pv 0) (pa_cons (pv 1) (pa_cons (pe_fld (pv 2) rfl) pa_nil)))))) (pss_one (ps_ret pe_bl)) pss_nil) (pss_one (ps_ret (C8.pe_c c__law_lost hr (by decide) (by rfl) (pa_cons (pv 0) (pa_cons (pe_pair (pe_op op_sub (pe_ix ix_tup (pv 1) pe_int (fun _ _ => rfl)) (pe_ix ix_tup (pe_fld (pv 2) rfl) pe_int (fun _ _ => rfl))) (pe_op op_sub (pe_ix ix_tup (pv 1) pe_int (fun _ _ => rfl)) (pe_ix ix_tup (pe_fld (pv 2) rfl) pe_int (fun _ _ => rfl)))) pa_nil))))))), ?_⟩
    rcases ht with ⟨n, ⟨dx, hx⟩, n0, sn, hf⟩ | ⟨u, v, ⟨dx, q, hx, hq⟩, hf⟩
    · refine ⟨_, rfl, x, _, dx, _, cs.c_Lost, true, rfl, hx, T.in_Lost, T.k_LL, _, rfl, ifT rfl ?_⟩
      refine ⟨_, rfl, _, rfl, x, _, dx, _, _, rfl, hx, T.cl_Lost, T.no_number, lk1, b, n, rfl, sm_mono sb (by decide), sm_mono sn (by decide), fun q H1 e1 hq => ?_⟩
      refine ⟨_, rfl, p, i, j, rfl, e1 _ _ hp, _, rfl, p, i, j, rfl, e1 _ _ hp, _, _, rfl, fun r H2 e2 hr => ⟨q, r, _, _, _, _, rfl, rfl, e2 _ _ hq, hr, ?_⟩⟩
      refine bq (Q := Q) ?_ (k _ (e1.trans e2))
      rw [hf, shows_lost hb, decide_eq_true n0, Bool.true_and]
    · refine ⟨_, rfl, x, _, dx, _, cs.c_Lost, false, rfl, hx, T.in_Won, T.k_WL, _, rfl, ifF rfl ?_⟩
      refine ⟨_, rfl, _, rfl, _, rfl, x, _, dx, _, _, rfl, hx, T.cl_Won, T.no_taking, lk1, b, p, q, i, j, u, v, rfl, hp, hq, _, rfl, if2 (fun c => ?_) (fun c => ?_)⟩
      · have c' : ¬ Th.may b i j u v := fun h => by rw [nd h] at c; cases c
        refine bq (Q := Q) ?_ (k _ (Evl.Ex.refl H))
        rw [hf]
        exact (decide_eq_false (fun h => c' h.1)).symm
      · have c' : Th.may b i j u v := by
          by_cases h : Th.may b i j u v
          · exact h
          · rw [nd1 h] at c
            cases c
        have m := c'
        unfold Th.may at m
        refine ⟨_, rfl, _, rfl, p, _, _, _, rfl, rfl, SqT.of hp, at0, _, rfl, x, _, dx, _, _, rfl, hx, T.cl_Won, T.no_taking, lk1, q, _, _, _, rfl, rfl, SqT.of hq, at0, _, _, rfl, rfl, ?_⟩
        refine ⟨_, rfl, p, _, _, _, rfl, rfl, SqT.of hp, at1, _, rfl, x, _, dx, _, _, rfl, hx, T.cl_Won, T.no_taking, lk1, q, _, _, _, rfl, rfl, SqT.of hq, at1, _, _, rfl, rfl, _, _, rfl, fun r H2 e2 hr => ?_⟩
        refine ⟨b, r, i - u, j - v, rfl, hr, hb, sm_mono sb (by decide), sm_mono (sm_le si (by omega) (by omega)) (by decide), sm_mono (sm_le sj (by omega) (by omega)) (by decide), fun H3 e3 => bq (Q := Q) ?_ (k _ (e2.trans e3))⟩
        rw [hf]
        cases (Th.nof b (i - u) (j - v)).isSome <;> simp [c']
-- pair_with: slots 0 bound, 1 number, 2 lessers
abbrev s_pair_with : Stmt := top 17
theorem sc_pair_with : FnScope ["bound", "number", "lessers"] ["bound", "number"] (defScope s_pair_with) := ⟨rfl, rfl, rfl, by decide +kernel, rfl, by decide +kernel, by decide +kernel⟩
def sp_pair_with (K : PySem.W.Frag) (cs : Cs) : Sp := fun vs H Q E => ∃ b n : Int, vs = [.int b, .int n] ∧ 1 ≤ b ∧ 1 ≤ n ∧ Sm 2900 b ∧ Sm 2900 n ∧ ∀ H', Evl.Ex H H' → Q (.int (Th.pw b n)) H'
theorem ok_pair_with {f : Addr} {fd : FuncData} (F : L2.Fun K "pair_with" "pair_with" s_pair_with f fd) (T : Txt K mg cs)
    (c_check_number : C8.Cal P w K mg base 2 "check_number" (sp_check_number K cs) [])
    (c__lessers_below : C8.Cal P w K mg base 2 "_lessers_below" (sp__lessers_below K cs) [])
    (c_check_bound : C8.Cal P w K mg base 3 "check_bound" (sp_check_bound K cs) [])
    (c_pair_by : C8.Cal P w K mg base 4 "pair_by" (sp_pair_by K cs) []) : FnOk P w K mg base CX0 5 f fd ["bound", "number"] (sp_pair_with K cs) := by
  refine F.ok sc_pair_with (fun vs H Q E h => ?_) (fun cdv A outer s H vs Q E hr h => ?_)
  · obtain ⟨_, _, rfl, _⟩ := h
    rfl
  · obtain ⟨b, n, rfl, hb, hn, sb, sn, k⟩ := h
    refine ⟨_, (pss_cons (ps_expr (C8.pe_c c_check_bound hr (by decide) (by rfl) (pa_cons (pv 0) pa_nil))) (pss_cons (ps_expr (C8.pe_c c_check_number hr (by decide) (by rfl) (pa_cons (pv 1) (pa_cons pe_int pa_nil)))) (pss_cons (ps_set (i := 2) sc_pair_with.nd rfl (Or.inl rfl) (C8.pe_c c__lessers_below hr (by decide) (by rfl) (pa_cons (pv 0) (pa_cons (pe_op op_add (pv 1) pe_int) pa_nil)))) (pss_cons (ps_if (pt_cmp (pc_eqI (pe_ix ix_tup (C8.pe_c c_pair_by hr (by decide) (by rfl) (pa_cons (pv 0) (pa_cons (pv 2) pa_nil))) pe_int (fun _ _ => rfl)) (pv 1))) (pss_one (ps_ret (pv 2))) pss_nil) (pss_one (ps_ret (pe_op op_sub (pv 1) (pv 2)))))))), ?_⟩
    have se : Sm 2901 (n + 1) := sm_add sn (sm_mono (sm_lit (a := 3) (by decide)) (by decide))
    have sb' : Sm 3000 b := sm_mono sb (by decide)
    refine ⟨_, rfl, b, rfl, hb, _, rfl, n, 1, rfl, hn, ?_⟩
    refine ⟨_, rfl, _, rfl, _, _, rfl, rfl, b, n + 1, rfl, hb, sb', sm_mono se (by decide), ?_⟩
    obtain ⟨c1, c2⟩ := Th.cnt_spec (b := b) (e := n + 1) hb (by omega)
    have c0 := Th.cnt_nn (b := b) (e := n + 1) hb (by omega)
    have c3 := Th.A_ge hb c0
    refine ⟨_, rfl, _, rfl, b, _, rfl, hb, c0, sb', sm_mono (sm_le sn c0 (by omega)) (by decide), fun p H1 e hp => ?_⟩
    refine ⟨p, _, _, _, rfl, rfl, SqT.of hp, at0, _, rfl, _, _, rfl, rfl, _, rfl, ?_⟩
    by_cases c : Th.A b (Th.cnt b (n + 1)) = n
    · have q := k _ e
      unfold Th.pw at q
      rw [if_pos c] at q
      exact ifT (decide_eq_true c) ⟨_, rfl, q⟩
    · have q := k _ e
      unfold Th.pw at q
      rw [if_neg c] at q
      exact ifF (decide_eq_false c) ⟨_, rfl, _, rfl, _, _, rfl, rfl, q⟩
-- number_of: slots 0 bound, 1 heaps, 2 number
abbrev s_number_of : Stmt := top 18
theorem sc_number_of : FnScope ["bound", "heaps", "number"] ["bound", "heaps"] (defScope s_number_of) := ⟨rfl, rfl, rfl, by decide +kernel, rfl, by decide +kernel, by decide +kernel⟩
def sp_number_of (K : PySem.W.Frag) (cs : Cs) : Sp := fun vs H Q E => ∃ (b : Int) (p : Addr) (i j : Int), vs = [.int b, .ref p] ∧ H p = some (.tup [.int i, .int j]) ∧ 1 ≤ b ∧ 0 ≤ i ∧ 0 ≤ j ∧ Sm 2800 b ∧ Sm 2800 i ∧ Sm 2800 j ∧ ∀ H', Evl.Ex H H' → Q (optV (Th.nof b i j)) H'
theorem ok_number_of {f : Addr} {fd : FuncData} (F : L2.Fun K "number_of" "number_of" s_number_of f fd) (T : Txt K mg cs)
    (c_pair_by : C8.Cal P w K mg base 4 "pair_by" (sp_pair_by K cs) []) : FnOk P w K mg base CX0 5 f fd ["bound", "heaps"] (sp_number_of K cs) := by
  refine F.ok sc_number_of (fun vs H Q E h => ?_) (fun cdv A outer s H vs Q E hr h => ?_)
  · obtain ⟨_, _, _, _, rfl, _⟩ := h
    rfl
  · obtain ⟨b, p, i, j, rfl, hp, hb, hi, hj, sb, si, sj, k⟩ := h
    refine ⟨_, (pss_cons (ps_set (i := 2) sc_number_of.nd rfl (Or.inl rfl) (pe_op op_fdivW (pe_callB call_abs (by rfl) T.n_abs (by decide +kernel) (pa_cons (pe_op op_sub (pe_ix ix_tup (pv 1) pe_int (fun _ _ => rfl)) (pe_ix ix_tup (pv 1) pe_int (fun _ _ => rfl))) pa_nil)) (pv 0))) (pss_cons (ps_if (pt_cmpR (op_eqP hr.units) (C8.pe_c c_pair_by hr (by decide) (by rfl) (pa_cons (pv 0) (pa_cons (pv 2) pa_nil))) (pe_tup (pa_cons (pe_callB (cr_minT rfl hr.units) (by rfl) T.n_min (by decide +kernel) (pa_cons (pv 1) pa_nil)) (pa_cons (pe_callB (cr_maxT rfl hr.units) (by rfl) T.n_max (by decide +kernel) (pa_cons (pv 1) pa_nil)) pa_nil))) (nomark _)) (pss_one (ps_ret (pv 2))) pss_nil) (pss_one (ps_ret pe_non)))), ?_⟩
    have a0 := Th.ab_nn (i - j)
    have sa : Sm 2801 (Th.ab (i - j)) := sm_ab (sm_sub si sj)
    have d0 : 0 ≤ Th.ab (i - j) / b := Int.ediv_nonneg a0 (by omega)
    have sd : Sm 2801 (Th.ab (i - j) / b) := sm_le sa d0 (Int.ediv_le_self _ a0)
    refine ⟨_, rfl, p, _, _, _, rfl, rfl, SqT.of hp, at0, _, rfl, p, _, _, _, rfl, rfl, SqT.of hp, at1, _, _, rfl, rfl, _, rfl, _, rfl, _, _, rfl, rfl, divw (by omega) sb, ?_⟩
    refine ⟨_, rfl, _, rfl, b, Th.ab (i - j) / b, rfl, hb, d0, sm_mono sb (by decide), sm_mono sd (by decide), fun q H1 e1 hq => ?_⟩
    refine ⟨_, rfl, p, _, _, rfl, e1 _ _ hp, _, rfl, p, _, _, rfl, e1 _ _ hp, (by show 2 ≤ sizeLine; decide), fun r hr => ⟨q, r, _, _, _, _, rfl, rfl, ex_new hr _ _ hq, upd_same, _, rfl, ?_⟩⟩
    have kk := k _ (e1.trans (ex_new (o := .tup [.int (min i j), .int (max i j)]) hr))
    unfold Th.nof at kk
    refine if2 (fun c => ?_) (fun c => ?_)
    · rw [if_pos (of_decide_eq_true c)] at kk
      exact ⟨_, rfl, kk⟩
    · rw [if_neg (of_decide_eq_false c)] at kk
      exact kk
-- can: slots 0 bound, 1 heaps, 2 taking
abbrev s_can : Stmt := top 22
theorem sc_can : FnScope ["bound", "heaps", "taking"] ["bound", "heaps", "taking"] (defScope s_can) := ⟨rfl, rfl, rfl, by decide +kernel, rfl, by decide +kernel, by decide +kernel⟩
def sp_can (K : PySem.W.Frag) (cs : Cs) : Sp := fun vs H Q E => ∃ (b : Int) (p q : Addr) (i j u v : Int), vs = [.int b, .ref p, .ref q] ∧ H p = some (.tup [.int i, .int j]) ∧ H q = some (.tup [.int u, .int v]) ∧ 1 ≤ b ∧ 0 ≤ i ∧ 0 ≤ j ∧ Q (.bl (decide (Th.may b i j u v))) H
theorem ok_can {f : Addr} {fd : FuncData} (F : L2.Fun K "can" "can" s_can f fd) (T : Txt K mg cs)
    (c__is_there : C8.Cal P w K mg base 1 "_is_there" (sp__is_there K cs) [])
    (c__is_let : C8.Cal P w K mg base 1 "_is_let" (sp__is_let K cs) [])
    (c_is_pair : C8.Cal P w K mg base 2 "is_pair" (sp_is_pair K cs) [])
    (c_check_bound : C8.Cal P w K mg base 3 "check_bound" (sp_check_bound K cs) [])
    (c_check_heaps : C8.Cal P w K mg base 4 "check_heaps" (sp_check_heaps K cs) []) : FnOk P w K mg base CX0 5 f fd ["bound", "heaps", "taking"] (sp_can K cs) := by
  refine F.ok sc_can (fun vs H Q E h => ?_) (fun cdv A outer s H vs Q E hr h => ?_)
  · obtain ⟨_, _, _, _, _, _, _, rfl, _⟩ := h
    rfl
  · obtain ⟨b, p, q, i, j, u, v, rfl, hp, hq, hb, hi, hj, k⟩ := h
    refine ⟨_, (pss_cons (ps_expr (C8.pe_c c_check_bound hr (by decide) (by rfl) (pa_cons (pv 0) pa_nil))) (pss_cons (ps_expr (C8.pe_c c_check_heaps hr (by decide) (by rfl) (pa_cons (pv 1) pa_nil))) (pss_cons (ps_if (pt_not (pt_val (C8.pe_c c_is_pair hr (by decide) (by rfl) (pa_cons (pv 2) pa_nil)))) (pss_one (ps_never)) pss_nil) (pss_one (ps_ret (pe_and (C8.pe_c c__is_there hr (by decide) (by rfl) (pa_cons (pv 1) (pa_cons (pv 2) pa_nil))) (pe_one (C8.pe_c c__is_let hr (by decide) (by rfl) (pa_cons (pv 0) (pa_cons (pv 2) pa_nil)))))))))), ?_⟩
    have kk : ∀ c, decide (Th.may b i j u v) = c → Q (.bl c) H := fun c h => h ▸ k
    refine ⟨_, rfl, b, rfl, hb, _, rfl, p, i, j, rfl, hp, hi, hj, _, rfl, q, u, v, rfl, hq, true, rfl, ifF rfl ?_⟩
    refine ⟨_, rfl, _, rfl, p, q, i, j, u, v, rfl, hp, hq, _, rfl, if2 (fun c => ?_) (fun c => ?_)⟩
    · have c' := of_decide_eq_true c
      refine ⟨_, rfl, _, rfl, b, q, u, v, rfl, hq, kk _ (decide_eq_decide.mpr ?_)⟩
      unfold Th.may
      omega
    · have c' := of_decide_eq_false c
      refine kk _ (decide_eq_false ?_)
      unfold Th.may
      omega
-- left: slots 0 bound, 1 heaps, 2 taking
abbrev s_left : Stmt := top 23
theorem sc_left : FnScope ["bound", "heaps", "taking"] ["bound", "heaps", "taking"] (defScope s_left) := ⟨rfl, rfl, rfl, by decide +kernel, rfl, by decide +kernel, by decide +kernel⟩
def sp_left (K : PySem.W.Frag) (cs : Cs) : Sp := fun vs H Q E => ∃ (b : Int) (p q : Addr) (i j u v : Int), vs = [.int b, .ref p, .ref q] ∧ H p = some (.tup [.int i, .int j]) ∧ H q = some (.tup [.int u, .int v]) ∧ 1 ≤ b ∧ 0 ≤ i ∧ 0 ≤ j ∧ Th.may b i j u v ∧ ∀ r H', Evl.Ex H H' → H' r = some (.tup [.int (i - u), .int (j - v)]) → Q (.ref r) H'
theorem ok_left {f : Addr} {fd : FuncData} (F : L2.Fun K "left" "left" s_left f fd) (T : Txt K mg cs)
    (c_can : C8.Cal P w K mg base 5 "can" (sp_can K cs) []) : FnOk P w K mg base CX0 6 f fd ["bound", "heaps", "taking"] (sp_left K cs) := by
  refine F.ok sc_left (fun vs H Q E h => ?_) (fun cdv A outer s H vs Q E hr h => ?_)
  · obtain ⟨_, _, _, _, _, _, _, rfl, _⟩ := h
    rfl
  · obtain ⟨b, p, q, i, j, u, v, rfl, hp, hq, hb, hi, hj, hm, k⟩ := h
    refine ⟨_, (pss_cons (ps_if (pt_not (pt_val (C8.pe_c c_can hr (by decide) (by rfl) (pa_cons (pv 0) (pa_cons (pv 1) (pa_cons (pv 2) pa_nil)))))) (pss_one (ps_never)) pss_nil) (pss_one (ps_ret (pe_tup (pa_cons (pe_op op_sub (pe_ix ix_tup (pv 1) pe_int (fun _ _ => rfl)) (pe_ix ix_tup (pv 2) pe_int (fun _ _ => rfl))) (pa_cons (pe_op op_sub (pe_ix ix_tup (pv 1) pe_int (fun _ _ => rfl)) (pe_ix ix_tup (pv 2) pe_int (fun _ _ => rfl))) pa_nil)))))), ?_⟩
    refine ⟨_, rfl, _, rfl, _, rfl, b, p, q, i, j, u, v, rfl, hp, hq, hb, hi, hj, _, rfl, ifF (nd hm) ?_⟩
    exact ⟨_, rfl, p, _, _, _, rfl, rfl, SqT.of hp, at0, _, rfl, q, _, _, _, rfl, rfl, SqT.of hq, at0, _, _, rfl, rfl, _, rfl, p, _, _, _, rfl, rfl, SqT.of hp, at1, _, rfl, q, _, _, _, rfl, rfl, SqT.of hq, at1, _, _, rfl, rfl, (by show 2 ≤ sizeLine; decide), fun r hr => k r _ (ex_new hr) upd_same⟩
-- Lost.shows: slots 0 self, 1 bound, 2 heaps
abbrev s_Lost_shows : Stmt := inClass (top 28) 1
theorem sc_Lost_shows : FnScope ["self", "bound", "heaps"] ["self", "bound", "heaps"] (defScope s_Lost_shows) := ⟨rfl, rfl, rfl, by decide +kernel, rfl, by decide +kernel, by decide +kernel⟩
def sp_Lost_shows (K : PySem.W.Frag) (cs : Cs) : Sp := fun vs H Q E => ∃ (x : Addr) (b : Int) (p : Addr) (i j n : Int), vs = [.ref x, .int b, .ref p] ∧ LostAt cs H x n ∧ H p = some (.tup [.int i, .int j]) ∧ 1 ≤ b ∧ 0 ≤ i ∧ 0 ≤ j ∧ Sm 2800 b ∧ Sm 2800 i ∧ Sm 2800 j ∧ ∀ H', Evl.Ex H H' → Q (.bl (decide (Th.nof b i j = some n))) H'
theorem ok_Lost_shows {f : Addr} {fd : FuncData} (F : L2.Fun K "shows" "Lost.shows" s_Lost_shows f fd) (T : Txt K mg cs)
    (c_is_whole : C8.Cal P w K mg base 1 "is_whole" (sp_is_whole K cs) [])
    (c_is_bound : C8.Cal P w K mg base 2 "is_bound" (sp_is_bound K cs) [])
    (c_are_heaps : C8.Cal P w K mg base 3 "are_heaps" (sp_are_heaps K cs) [])
    (c_number_of : C8.Cal P w K mg base 5 "number_of" (sp_number_of K cs) []) : FnOk P w K mg base CX0 6 f fd ["self", "bound", "heaps"] (sp_Lost_shows K cs) := by
  refine F.ok sc_Lost_shows (fun vs H Q E h => ?_) (fun cdv A outer s H vs Q E hr h => ?_)
  · obtain ⟨_, _, _, _, _, _, rfl, _⟩ := h
    rfl
  · obtain ⟨x, b, p, i, j, n, rfl, ⟨dx, hx⟩, hp, hb, hi, hj, sb, si, sj, k⟩ := h
    refine ⟨_, (pss_cons (ps_if (PW.pt (pw_or (pt_not (pt_val (C8.pe_c c_is_bound hr (by decide) (by rfl) (pa_cons (pv 1) pa_nil)))) (pw_or (pt_not (pt_val (C8.pe_c c_are_heaps hr (by decide) (by rfl) (pa_cons (pv 2) pa_nil)))) (pw_or1 (pt_not (pt_val (C8.pe_c c_is_whole hr (by decide) (by rfl) (pa_cons (pe_fld (pv 0) rfl) pa_nil)))))))) (pss_one (ps_ret pe_bl)) pss_nil) (pss_one (ps_ret (pe_cmpR op_eq (C8.pe_c c_number_of hr (by decide) (by rfl) (pa_cons (pv 1) (pa_cons (pv 2) pa_nil))) (pe_fld (pv 0) rfl) (nomark _))))), ?_⟩
    refine ⟨_, rfl, b, rfl, _, rfl, if2 (fun c => absurd c (by rw [nd hb]; exact Bool.false_ne_true)) (fun _ => ⟨_, rfl, p, i, j, rfl, hp, hi, hj, true, rfl, iteF ⟨_, rfl, x, _, dx, _, _, rfl, hx, T.cl_Lost, T.no_number, lk1, n, rfl, true, rfl, iteF ?_⟩⟩)⟩
    refine ⟨_, rfl, _, rfl, b, p, i, j, rfl, hp, hb, hi, hj, sb, si, sj, fun H1 e1 => ⟨_, rfl, x, _, dx, _, _, rfl, e1 _ _ hx, T.cl_Lost, T.no_number, lk1, ?_⟩⟩
    have kk := k _ e1
    cases e : Th.nof b i j with
    | none =>
      rw [e] at kk
      exact ⟨rfl, bq (Q := Q) (by simp [optV]) kk⟩
    | some m =>
      rw [e] at kk
      exact ⟨rfl, bq (Q := Q) (by simp [optV]) kk⟩
-- _aim: slots 0 bound, 1 lesser, 2 greater, 3 first, 4 second
abbrev s__aim : Stmt := top 33
theorem sc__aim : FnScope ["bound", "lesser", "greater", "first", "second"] ["bound", "lesser", "greater"] (defScope s__aim) := ⟨rfl, rfl, rfl, by decide +kernel, rfl, by decide +kernel, by decide +kernel⟩
def sp__aim (K : PySem.W.Frag) (cs : Cs) : Sp := fun vs H Q E => ∃ b l g : Int, vs = [.int b, .int l, .int g] ∧ 1 ≤ b ∧ 0 ≤ l ∧ l ≤ g ∧ Sm 2800 b ∧ Sm 2800 g ∧ ∀ p H', Evl.Ex H H' → H' p = some (.tup [.int (Th.aim b l g).1, .int (Th.aim b l g).2]) → Q (.ref p) H'
theorem ok__aim {f : Addr} {fd : FuncData} (F : L2.Fun K "_aim" "_aim" s__aim f fd) (T : Txt K mg cs)
    (c_pair_by : C8.Cal P w K mg base 4 "pair_by" (sp_pair_by K cs) [])
    (c_pair_with : C8.Cal P w K mg base 5 "pair_with" (sp_pair_with K cs) []) : FnOk P w K mg base CX0 6 f fd ["bound", "lesser", "greater"] (sp__aim K cs) := by
  refine F.ok sc__aim (fun vs H Q E h => ?_) (fun cdv A outer s H vs Q E hr h => ?_)
  · obtain ⟨_, _, _, rfl, _⟩ := h
    rfl
  · obtain ⟨b, l, g, rfl, hb, hl, hg, sb, sg, k⟩ := h
    refine ⟨_, (pss_cons (ps_if (pt_cmp (pc_eqI (pv 1) pe_int)) (pss_one (ps_ret (pe_tup (pa_cons pe_int (pa_cons pe_int pa_nil))))) pss_nil) (pss_cons (ps_asg (C8.pe_c c_pair_by hr (by decide) (by rfl) (pa_cons (pv 0) (pa_cons (C8.pe_c c_pair_with hr (by decide) (by rfl) (pa_cons (pv 0) (pa_cons (pv 1) pa_nil))) pa_nil))) (pg_tup rfl (pgs_cons (pg_name (i := 3) sc__aim.nd rfl (Or.inl rfl)) (pgs_cons (pg_name (i := 4) sc__aim.nd rfl (Or.inl rfl)) pgs_nil)))) (pss_cons (ps_if (pt_cmp (pc_eqI (pv 1) (pv 4))) (pss_one (ps_ret (pe_tup (pa_cons (pv 4) (pa_cons (pv 3) pa_nil))))) pss_nil) (pss_cons (ps_if (pt_cmp (pc_gt (pv 2) (pv 4))) (pss_one (ps_ret (pe_tup (pa_cons (pv 3) (pa_cons (pv 4) pa_nil))))) pss_nil) (pss_one (ps_ret (C8.pe_c c_pair_by hr (by decide) (by rfl) (pa_cons (pv 0) (pa_cons (pe_op op_fdivW (pe_op op_sub (pv 2) (pv 1)) (pv 0)) pa_nil))))))))), ?_⟩
    unfold Th.aim at k
    refine ⟨_, rfl, _, _, rfl, rfl, _, rfl, ?_⟩
    refine if2 (fun c => ?_) (fun c => ?_)
    · rw [if_pos (of_decide_eq_true c)] at k
      exact ⟨(by show 2 ≤ sizeLine; decide), fun p hp => k p _ (ex_new hp) upd_same⟩
    have c' : ¬ l = 0 := of_decide_eq_false c
    rw [if_neg c'] at k
    have sl : Sm 2800 l := sm_le sg hl hg
    obtain ⟨p1, p2, p3⟩ := Th.pw_spec hb (show 1 ≤ l by omega)
    refine ⟨_, rfl, _, rfl, _, rfl, b, l, rfl, hb, (by omega), sm_mono sb (by decide), sm_mono sl (by decide), fun H1 e1 => ⟨b, _, rfl, hb, (by omega), sm_mono sb (by decide), sm_mono (sm_le sl (by omega) p2) (by decide), fun p H2 e2 hp => ?_⟩⟩
    generalize Th.pw b l = n at *
    refine ⟨p, _, rfl, SqT.of hp, rfl, _, _, rfl, _, _, rfl, rfl, ?_⟩
    refine ⟨_, rfl, _, rfl, _, _, rfl, rfl, _, rfl, ?_⟩
    refine if2 (fun d => ?_) (fun d => ?_)
    · rw [if_pos (of_decide_eq_true d)] at k
      exact ⟨_, rfl, _, rfl, (by show 2 ≤ sizeLine; decide), fun p hp => k p _ (e1.trans (e2.trans (ex_new hp))) upd_same⟩
    rw [if_neg (of_decide_eq_false d)] at k
    refine ⟨_, rfl, _, rfl, _, _, rfl, rfl, _, rfl, ?_⟩
    refine if2 (fun d2 => ?_) (fun d2 => ?_)
    · rw [if_pos (of_decide_eq_true d2)] at k
      exact ⟨_, rfl, _, rfl, (by show 2 ≤ sizeLine; decide), fun p hp => k p _ (e1.trans (e2.trans (ex_new hp))) upd_same⟩
    rw [if_neg (of_decide_eq_false d2)] at k
    have j0 : 0 ≤ (g - l) / b := Int.ediv_nonneg (by omega) (by omega)
    have sj : Sm 2800 ((g - l) / b) := sm_le sg j0 (by have := Int.ediv_le_self (a := g - l) b (by omega); omega)
    exact ⟨_, rfl, _, rfl, _, rfl, _, _, rfl, rfl, _, rfl, _, _, rfl, rfl, divw (by omega) sb, b, _, rfl, hb, j0, sm_mono sb (by decide), sm_mono sj (by decide), fun q H3 e3 hq => k q _ (e1.trans (e2.trans e3)) hq⟩
-- left__x: slots 0 bound, 1 heaps, 2 taking
abbrev s_left__x : Stmt := top 23
theorem sc_left__x : FnScope ["bound", "heaps", "taking"] ["bound", "heaps", "taking"] (defScope s_left__x) := ⟨rfl, rfl, rfl, by decide +kernel, rfl, by decide +kernel, by decide +kernel⟩
def sp_left__x (K : PySem.W.Frag) (cs : Cs) : Sp := fun vs H Q E => ∃ (b : Int) (p q : Addr) (i j u v : Int), vs = [.int b, .ref p, .ref q] ∧ H p = some (.tup [.int i, .int j]) ∧ H q = some (.tup [.int u, .int v]) ∧ 1 ≤ b ∧ 0 ≤ i ∧ 0 ≤ j ∧ ¬ Th.may b i j u v ∧ E (.ref cs.c_BadTaking) none H
theorem ok_left__x {f : Addr} {fd : FuncData} (F : L2.Fun K "left" "left" s_left__x f fd) (T : Txt K mg cs)
    (c_can : C8.Cal P w K mg base 5 "can" (sp_can K cs) []) : FnOk P w K mg base (L2.CX P w) 6 f fd ["bound", "heaps", "taking"] (sp_left__x K cs) := by
  refine F.okX sc_left__x (fun vs H Q E h => ?_) (fun cdv A outer s H vs Q E hr h => ?_)
  · obtain ⟨_, _, _, _, _, _, _, rfl, _⟩ := h
    rfl
  · obtain ⟨b, p, q, i, j, u, v, rfl, hp, hq, hb, hi, hj, hm, k⟩ := h
    refine ⟨_, (pss_cons (ps_if (pt_not (pt_val (C8.pe_c c_can hr (by decide) (by rfl) (pa_cons (pv 0) (pa_cons (pv 1) (pa_cons (pv 2) pa_nil)))))) (pss_one (ps_raise rfl (takes_of rfl rfl rfl rfl) (pmk_own PySem.F.excBase_ValueError T.x_BT T.g_BadTaking T.kp_BT (raises_own T.b_BT T.t_BT) (by exact rfl)))) pss_nil) (pss_one (ps_ret (pe_tup (pa_cons (pe_op op_sub (pe_ix ix_tup (pv 1) pe_int (fun _ _ => rfl)) (pe_ix ix_tup (pv 2) pe_int (fun _ _ => rfl))) (pa_cons (pe_op op_sub (pe_ix ix_tup (pv 1) pe_int (fun _ _ => rfl)) (pe_ix ix_tup (pv 2) pe_int (fun _ _ => rfl))) pa_nil)))))), ?_⟩
    exact ⟨_, rfl, _, rfl, _, rfl, b, p, q, i, j, u, v, rfl, hp, hq, hb, hi, hj, _, rfl, ifT (nd1 hm) k⟩
-- Won.shows: slots 0 self, 1 bound, 2 heaps
abbrev s_Won_shows : Stmt := inClass (top 29) 1
theorem sc_Won_shows : FnScope ["self", "bound", "heaps"] ["self", "bound", "heaps"] (defScope s_Won_shows) := ⟨rfl, rfl, rfl, by decide +kernel, rfl, by decide +kernel, by decide +kernel⟩
def sp_Won_shows (K : PySem.W.Frag) (cs : Cs) : Sp := fun vs H Q E => ∃ (x : Addr) (b : Int) (p : Addr) (i j u v : Int), vs = [.ref x, .int b, .ref p] ∧ WonAt cs H x u v ∧ H p = some (.tup [.int i, .int j]) ∧ 1 ≤ b ∧ 0 ≤ i ∧ 0 ≤ j ∧ Sm 2800 b ∧ Sm 2800 i ∧ Sm 2800 j ∧ ∀ H', Evl.Ex H H' → Q (.bl (decide (Th.may b i j u v ∧ (Th.nof b (i - u) (j - v)).isSome = true))) H'
theorem ok_Won_shows {f : Addr} {fd : FuncData} (F : L2.Fun K "shows" "Won.shows" s_Won_shows f fd) (T : Txt K mg cs)
    (c_is_pair : C8.Cal P w K mg base 2 "is_pair" (sp_is_pair K cs) [])
    (c_is_bound : C8.Cal P w K mg base 2 "is_bound" (sp_is_bound K cs) [])
    (c_are_heaps : C8.Cal P w K mg base 3 "are_heaps" (sp_are_heaps K cs) [])
    (c_number_of : C8.Cal P w K mg base 5 "number_of" (sp_number_of K cs) [])
    (c_can : C8.Cal P w K mg base 5 "can" (sp_can K cs) [])
    (c_left : C8.Cal P w K mg base 6 "left" (sp_left K cs) []) : FnOk P w K mg base CX0 7 f fd ["self", "bound", "heaps"] (sp_Won_shows K cs) := by
  refine F.ok sc_Won_shows (fun vs H Q E h => ?_) (fun cdv A outer s H vs Q E hr h => ?_)
  · obtain ⟨_, _, _, _, _, _, _, rfl, _⟩ := h
    rfl
  · obtain ⟨x, b, p, i, j, u, v, rfl, ⟨dx, q, hx, hq⟩, hp, hb, hi, hj, sb, si, sj, k⟩ := h
    refine ⟨_, (pss_cons (ps_if (PW.pt (pw_or (pt_not (pt_val (C8.pe_c c_is_bound hr (by decide) (by rfl) (pa_cons (pv 1) pa_nil)))) (pw_or (pt_not (pt_val (C8.pe_c c_are_heaps hr (by decide) (by rfl) (pa_cons (pv 2) pa_nil)))) (pw_or1 (pt_not (pt_val (C8.pe_c c_is_pair hr (by decide) (by rfl) (pa_cons (pe_fld (pv 0) rfl) pa_nil)))))))) (pss_one (ps_ret pe_bl)) pss_nil) (pss_cons (ps_if (pt_not (pt_val (C8.pe_c c_can hr (by decide) (by rfl) (pa_cons (pv 1) (pa_cons (pv 2) (pa_cons (pe_fld (pv 0) rfl) pa_nil)))))) (pss_one (ps_ret pe_bl)) pss_nil) (pss_one (ps_ret (pe_cmp (pc_notN (C8.pe_c c_number_of hr (by decide) (by rfl) (pa_cons (pv 1) (pa_cons (C8.pe_c c_left hr (by decide) (by rfl) (pa_cons (pv 1) (pa_cons (pv 2) (pa_cons (pe_fld (pv 0) rfl) pa_nil)))) pa_nil))))))))), ?_⟩
    refine ⟨_, rfl, b, rfl, _, rfl, if2 (fun c => absurd c (by rw [nd hb]; exact Bool.false_ne_true)) (fun _ => ⟨_, rfl, p, i, j, rfl, hp, hi, hj, true, rfl, iteF ⟨_, rfl, x, _, dx, _, _, rfl, hx, T.cl_Won, T.no_taking, lk1, q, u, v, rfl, hq, true, rfl, iteF ?_⟩⟩)⟩
    refine ⟨_, rfl, _, rfl, _, rfl, x, _, dx, _, _, rfl, hx, T.cl_Won, T.no_taking, lk1, b, p, q, i, j, u, v, rfl, hp, hq, hb, hi, hj, _, rfl, if2 (fun c => ?_) (fun c => ?_)⟩
    · have c' : ¬ Th.may b i j u v := fun h => by rw [nd h] at c; cases c
      exact bf (Q := Q) rfl (by have kk := k H (Evl.Ex.refl H); rwa [decide_eq_false (fun h => c' h.1)] at kk)
    · have c' : Th.may b i j u v := by
        by_cases h : Th.may b i j u v
        · exact h
        · rw [nd1 h] at c
          cases c
      have m := c'
      unfold Th.may at m
      refine ⟨_, rfl, _, rfl, _, rfl, _, rfl, x, _, dx, _, _, rfl, hx, T.cl_Won, T.no_taking, lk1, b, p, q, i, j, u, v, rfl, hp, hq, hb, hi, hj, c', fun r H1 e1 hr => ?_⟩
      refine ⟨b, r, i - u, j - v, rfl, hr, hb, (by omega), (by omega), sb, sm_le si (by omega) (by omega), sm_le sj (by omega) (by omega), fun H2 e2 => ?_⟩
      have kk := k _ (e1.trans e2)
      cases e : Th.nof b (i - u) (j - v) with
      | none =>
        rw [e, decide_eq_false (fun h => by cases h.2)] at kk
        exact kk
      | some m =>
        rw [e, decide_eq_true ⟨c', rfl⟩] at kk
        exact kk
-- _winning: slots 0 bound, 1 heaps, 2 one, 3 other, 4 rest, 5 other_rest
abbrev s__winning : Stmt := top 32
theorem sc__winning : FnScope ["bound", "heaps", "one", "other", "rest", "other_rest"] ["bound", "heaps"] (defScope s__winning) := ⟨rfl, rfl, rfl, by decide +kernel, rfl, by decide +kernel, by decide +kernel⟩
def sp__winning (K : PySem.W.Frag) (cs : Cs) : Sp := fun vs H Q E => ∃ (b : Int) (p : Addr) (i j : Int), vs = [.int b, .ref p] ∧ H p = some (.tup [.int i, .int j]) ∧ 1 ≤ b ∧ 0 ≤ i ∧ 0 ≤ j ∧ Sm 2800 b ∧ Sm 2800 i ∧ Sm 2800 j ∧ ∀ q H', Evl.Ex H H' → H' q = some (.tup [.int (Th.win b i j).1, .int (Th.win b i j).2]) → Q (.ref q) H'
theorem ok__winning {f : Addr} {fd : FuncData} (F : L2.Fun K "_winning" "_winning" s__winning f fd) (T : Txt K mg cs)
    (c__aim : C8.Cal P w K mg base 6 "_aim" (sp__aim K cs) []) : FnOk P w K mg base CX0 7 f fd ["bound", "heaps"] (sp__winning K cs) := by
  refine F.ok sc__winning (fun vs H Q E h => ?_) (fun cdv A outer s H vs Q E hr h => ?_)
  · obtain ⟨_, _, _, _, rfl, _⟩ := h
    rfl
  · obtain ⟨b, p, i, j, rfl, hp, hb, hi, hj, sb, si, sj, k⟩ := h
    refine ⟨_, (pss_cons (ps_asg (pv 1) (pg_tup rfl (pgs_cons (pg_name (i := 2) sc__winning.nd rfl (Or.inl rfl)) (pgs_cons (pg_name (i := 3) sc__winning.nd rfl (Or.inl rfl)) pgs_nil)))) (pss_cons (ps_if (pt_cmp (pc_le (pv 2) (pv 3))) (pss_one (ps_asg (C8.pe_c c__aim hr (by decide) (by rfl) (pa_cons (pv 0) (pa_cons (pv 2) (pa_cons (pv 3) pa_nil)))) (pg_tup rfl (pgs_cons (pg_name (i := 4) sc__winning.nd rfl (Or.inl rfl)) (pgs_cons (pg_name (i := 5) sc__winning.nd rfl (Or.inl rfl)) pgs_nil))))) (pss_one (ps_asg (C8.pe_c c__aim hr (by decide) (by rfl) (pa_cons (pv 0) (pa_cons (pv 3) (pa_cons (pv 2) pa_nil)))) (pg_tup rfl (pgs_cons (pg_name (i := 5) sc__winning.nd rfl (Or.inl rfl)) (pgs_cons (pg_name (i := 4) sc__winning.nd rfl (Or.inl rfl)) pgs_nil)))))) (pss_one (ps_ret (pe_tup (pa_cons (pe_op op_sub (pv 2) (pv 4)) (pa_cons (pe_op op_sub (pv 3) (pv 5)) pa_nil))))))), ?_⟩
    unfold Th.win at k
    refine ⟨_, rfl, p, _, rfl, SqT.of hp, rfl, _, _, rfl, _, _, rfl, rfl, ?_⟩
    refine ⟨_, rfl, _, rfl, _, _, rfl, rfl, _, rfl, ?_⟩
    refine if2 (fun c => ?_) (fun c => ?_)
    · have c' : i ≤ j := of_decide_eq_true c
      rw [if_pos c'] at k
      refine ⟨_, rfl, _, rfl, _, rfl, b, i, j, rfl, hb, hi, c', sb, sj, fun q H1 e1 hq => ⟨q, _, rfl, SqT.of hq, rfl, _, _, rfl, _, _, rfl, rfl, ?_⟩⟩
      exact ⟨_, rfl, _, rfl, _, _, rfl, rfl, _, rfl, _, rfl, _, _, rfl, rfl, (by show 2 ≤ sizeLine; decide), fun r hr => k r _ (e1.trans (ex_new hr)) upd_same⟩
    · have c' : ¬ i ≤ j := of_decide_eq_false c
      rw [if_neg c'] at k
      refine ⟨_, rfl, _, rfl, _, rfl, b, j, i, rfl, hb, hj, (by omega), sb, si, fun q H1 e1 hq => ⟨q, _, rfl, SqT.of hq, rfl, _, _, rfl, _, _, rfl, rfl, ?_⟩⟩
      exact ⟨_, rfl, _, rfl, _, _, rfl, rfl, _, rfl, _, rfl, _, _, rfl, rfl, (by show 2 ≤ sizeLine; decide), fun r hr => k r _ (e1.trans (ex_new hr)) upd_same⟩
-- told: slots 0 bound, 1 heaps, 2 number
abbrev s_told : Stmt := top 31
theorem sc_told : FnScope ["bound", "heaps", "number"] ["bound", "heaps"] (defScope s_told) := ⟨rfl, rfl, rfl, by decide +kernel, rfl, by decide +kernel, by decide +kernel⟩
def sp_told (K : PySem.W.Frag) (cs : Cs) : Sp := fun vs H Q E => ∃ (b : Int) (p : Addr) (i j : Int), vs = [.int b, .ref p] ∧ H p = some (.tup [.int i, .int j]) ∧ 1 ≤ b ∧ 0 ≤ i ∧ 0 ≤ j ∧ Sm 2800 b ∧ Sm 2800 i ∧ Sm 2800 j ∧ (∀ n x H', Th.nof b i j = some n → Evl.Ex H H' → LostAt cs H' x n → Q (.ref x) H') ∧ (∀ x H', Th.nof b i j = none → Evl.Ex H H' → WonAt cs H' x (Th.win b i j).1 (Th.win b i j).2 → Q (.ref x) H')
theorem ok_told {f : Addr} {fd : FuncData} (F : L2.Fun K "told" "told" s_told f fd) (T : Txt K mg cs)
    (c_Lost___init__ : C8.Mak P w K mg base 1 "Lost" cs.c_Lost (sp_Lost___init__ K cs) [])
    (c_Won___init__ : C8.Mak P w K mg base 1 "Won" cs.c_Won (sp_Won___init__ K cs) [])
    (c_check_bound : C8.Cal P w K mg base 3 "check_bound" (sp_check_bound K cs) [])
    (c_check_heaps : C8.Cal P w K mg base 4 "check_heaps" (sp_check_heaps K cs) [])
    (c_number_of : C8.Cal P w K mg base 5 "number_of" (sp_number_of K cs) [])
    (c__winning : C8.Cal P w K mg base 7 "_winning" (sp__winning K cs) []) : FnOk P w K mg base CX0 8 f fd ["bound", "heaps"] (sp_told K cs) := by
  refine F.ok sc_told (fun vs H Q E h => ?_) (fun cdv A outer s H vs Q E hr h => ?_)
  · obtain ⟨_, _, _, _, rfl, _⟩ := h
    rfl
  · obtain ⟨b, p, i, j, rfl, hp, hb, hi, hj, sb, si, sj, kL, kW⟩ := h
    refine ⟨_, (pss_cons (ps_expr (C8.pe_c c_check_bound hr (by decide) (by rfl) (pa_cons (pv 0) pa_nil))) (pss_cons (ps_expr (C8.pe_c c_check_heaps hr (by decide) (by rfl) (pa_cons (pv 1) pa_nil))) (pss_cons (ps_set (i := 2) sc_told.nd rfl (Or.inl rfl) (C8.pe_c c_number_of hr (by decide) (by rfl) (pa_cons (pv 0) (pa_cons (pv 1) pa_nil)))) (pss_cons (ps_if (pt_cmp (pc_notN (pv 2))) (pss_one (ps_ret (C8.pe_mk c_Lost___init__ hr (by decide) (by rfl) (pa_cons (pv 2) pa_nil)))) pss_nil) (pss_one (ps_ret (C8.pe_mk c_Won___init__ hr (by decide) (by rfl) (pa_cons (C8.pe_c c__winning hr (by decide) (by rfl) (pa_cons (pv 0) (pa_cons (pv 1) pa_nil))) pa_nil)))))))), ?_⟩
    refine ⟨_, rfl, b, rfl, hb, _, rfl, p, i, j, rfl, hp, hi, hj, ?_⟩
    refine ⟨_, rfl, _, rfl, b, p, i, j, rfl, hp, hb, hi, hj, sb, si, sj, fun H1 e1 => ?_⟩
    cases e : Th.nof b i j with
    | some n =>
      refine ⟨_, rfl, true, rfl, iteT ⟨_, rfl, fun x dx nx nd ne => ⟨x, dx, n, rfl, upd_same, rfl, ?_⟩⟩⟩
      refine kL n x _ e (e1.trans (ex_made nx nd ne)) ⟨dx, upd_same⟩
    | none =>
      refine ⟨_, rfl, false, rfl, iteF ⟨_, rfl, _, rfl, b, p, i, j, rfl, e1 _ _ hp, hb, hi, hj, sb, si, sj, fun q H2 e2 hq => ?_⟩⟩
      refine fun x dx nx nd ne => ⟨x, dx, q, rfl, upd_same, rfl, ?_⟩
      exact kW x _ e (e1.trans (e2.trans (ex_made nx nd ne))) ⟨dx, q, upd_same, ex_made nx nd ne _ _ hq⟩
-- _law_refused: slots 0 bound_here, 1 heaps_here, 2 taking, 3 error
abbrev s__law_refused : Stmt := top 49
theorem sc__law_refused : FnScope ["_law_bound_here", "_law_heaps_here", "_law_taking", "error"] ["_law_bound_here", "_law_heaps_here", "_law_taking"] (defScope s__law_refused) := ⟨rfl, rfl, rfl, by decide +kernel, rfl, by decide +kernel, by decide +kernel⟩
def sp__law_refused (K : PySem.W.Frag) (cs : Cs) : Sp := fun vs H Q E => ∃ (b : Int) (p q : Addr) (i j u v : Int), vs = [.int b, .ref p, .ref q] ∧ H p = some (.tup [.int i, .int j]) ∧ H q = some (.tup [.int u, .int v]) ∧ 1 ≤ b ∧ 0 ≤ i ∧ 0 ≤ j ∧ ¬ Th.may b i j u v ∧ Q (.bl true) H
theorem ok__law_refused {f : Addr} {fd : FuncData} (F : L2.Fun K "_law_refused" "_law_refused" s__law_refused f fd) (T : Txt K mg cs)
    (c_left__x : CalX P w K mg base 6 "left" ["bound", "heaps", "taking"] (sp_left__x K cs)) : FnOk P w K mg base CX0 8 f fd ["_law_bound_here", "_law_heaps_here", "_law_taking"] (sp__law_refused K cs) := by
  refine F.ok sc__law_refused (fun vs H Q E h => ?_) (fun cdv A outer s H vs Q E hr h => ?_)
  · obtain ⟨_, _, _, _, _, _, _, rfl, _⟩ := h
    rfl
  · obtain ⟨b, p, q, i, j, u, v, rfl, hp, hq, hb, hi, hj, hm, k⟩ := h
    refine ⟨_, (pss_cons (ps_try_as (i := 3) (tb := fun W => tDrop (tCallS (sp_left__x K cs) (WE W) (tCons (tVar 0) (tCons (tVar 1) (tCons (tVar 2) tNil))))) (ts := fun a cls d => fun D σ H => (cls = .ref cs.c_BadTaking ∧ d = none) ∧ tRet (tCB (rIsE K cs.c_BadTaking a) (tCons (tVar 3) (tCons (tC (.ref cs.c_BadTaking)) tNil))) D σ H) (Wout := fun _ _ _ _ => False) rfl rfl sc__law_refused.nd rfl rfl ⟨rfl, by decide, Or.inl T.g_HeapError⟩ takes0 (fun W pn xe tk _ => pss_one (ps_expr (by exact (pe_cx c_left__x hr (by decide) (by rfl) tk (pa_cons (pv 0) (pa_cons (pv 1) (pa_cons (pv 2) pa_nil))))))) (fun a oe cls d pn hz hf => pss_given (fun g => by obtain ⟨rfl, rfl⟩ := g; exact pss_one (ps_ret (pe_callB (call_isE T.i_BT hz hf) (by rfl) T.n_isinstance (by decide +kernel) (pa_cons (pv 3) (pa_cons (pe_glob (v := .ref cs.c_BadTaking) (by rfl) T.g_BadTaking rfl) pa_nil))))))) (pss_one (ps_ret pe_bl))), ?_⟩
    refine ⟨_, rfl, _, rfl, _, rfl, b, p, q, i, j, u, v, rfl, hp, hq, hb, hi, hj, hm, ?_⟩
    refine ⟨true, T.e_BT, fun _ a ha => ⟨⟨rfl, rfl⟩, _, rfl, _, _, true, rfl, ?_, T.k_BT, k⟩, fun q => Bool.noConfusion q⟩
    intro u hu
    exact hu
-- _law_right: slots 0 bound_here, 1 heaps_here, 2 others, 3 found, 4 far, 5 other, 6 behind
abbrev s__law_right : Stmt := top 48
theorem sc__law_right : FnScope ["_law_bound_here", "_law_heaps_here", "_law_others", "_law_found", "_law_far", "_law_other", "_law_behind"] ["_law_bound_here", "_law_heaps_here", "_law_others"] (defScope s__law_right) := ⟨rfl, rfl, rfl, by decide +kernel, rfl, by decide +kernel, by decide +kernel⟩
def sp__law_right (K : PySem.W.Frag) (cs : Cs) : Sp := fun vs H Q E => ∃ (b : Int) (p : Addr) (i j : Int) (l : Addr) (xs : List V), vs = [.int b, .ref p, .ref l] ∧ H p = some (.tup [.int i, .int j]) ∧ 1 ≤ b ∧ 0 ≤ i ∧ 0 ≤ j ∧ Sm 301 b ∧ Sm 301 i ∧ Sm 301 j ∧ H l = some (.lst xs) ∧ (∀ y ∈ xs, OtT H y) ∧ ∀ H', Evl.Ex H H' → Q (.bl true) H'
theorem rd_shows {σ : L2.St} {H : Hp} {Q : VK} {ix : Nat} {x p : Addr} {b i j : Int} {f : Int → Int → Int → Bool} {ta : TA} (hv : σ[ix]? = some (some (.ref x))) (ht : Tells cs H x f) (ha : ∀ R : List V → Hp → Prop, R [.int b, .ref p] H → ta σ H R) (hp : H p = some (.tup [.int i, .int j])) (hb : 1 ≤ b) (hi : 0 ≤ i) (hj : 0 ≤ j) (sb : Sm 310 b) (si : Sm 310 i) (sj : Sm 310 j) (k : ∀ H', Evl.Ex H H' → Q (.bl (f b i j)) H') :
    tMeth2 cs.c_Lost cs.c_Won "shows" (sp_Lost_shows K cs) (sp_Won_shows K cs) (tVar ix) ta σ H Q := by
  refine ⟨_, hv, ?_⟩
  rcases ht with ⟨n, ⟨dx, hx⟩, n0, sn, hf⟩ | ⟨u, v, ⟨dx, q, hx, hq⟩, hf⟩
  · exact .inl ⟨x, dx, _, rfl, hx, lk0 (by decide +kernel), ha _ ⟨x, b, p, i, j, n, rfl, ⟨dx, hx⟩, hp, hb, hi, hj, sm_mono sb (by decide), sm_mono si (by decide), sm_mono sj (by decide), fun H3 e3 => bq (Q := Q) (hf b i j).symm (k _ e3)⟩⟩
  · exact .inr ⟨x, dx, _, rfl, hx, lk0 (by decide +kernel), ha _ ⟨x, b, p, i, j, u, v, rfl, ⟨dx, q, hx, hq⟩, hp, hb, hi, hj, sm_mono sb (by decide), sm_mono si (by decide), sm_mono sj (by decide), fun H3 e3 => bq (Q := Q) (hf b i j).symm (k _ e3)⟩⟩
theorem ok__law_right {f : Addr} {fd : FuncData} (F : L2.Fun K "_law_right" "_law_right" s__law_right f fd) (T : Txt K mg cs)
    (c__law_whole : C8.Cal P w K mg base 1 "_law_whole" (sp__law_whole K cs) [])
    (c__law_says : C8.Cal P w K mg base 1 "_law_says" (sp__law_says K cs) [])
    (c__law_is_pair : C8.Cal P w K mg base 2 "_law_is_pair" (sp__law_is_pair K cs) [])
    (c__law_lost : C8.Cal P w K mg base 3 "_law_lost" (sp__law_lost K cs) [])
    (c__law_due : C8.Cal P w K mg base 4 "_law_due" (sp__law_due K cs) [])
    (c_left : C8.Cal P w K mg base 6 "left" (sp_left K cs) [])
    (c_Lost_shows : C8.Met P w K mg base 6 cs.c_Lost "shows" (sp_Lost_shows K cs) [])
    (c_Won_shows : C8.Met P w K mg base 7 cs.c_Won "shows" (sp_Won_shows K cs) [])
    (c_told : C8.Cal P w K mg base 8 "told" (sp_told K cs) []) : FnOk P w K mg base CX0 9 f fd ["_law_bound_here", "_law_heaps_here", "_law_others"] (sp__law_right K cs) := by
  refine F.ok sc__law_right (fun vs H Q E h => ?_) (fun cdv A outer s H vs Q E hr h => ?_)
  · obtain ⟨_, _, _, _, _, _, rfl, _⟩ := h
    rfl
  · obtain ⟨b, p, i, j, l, xs, rfl, hp, hb, hi, hj, sb, si, sj, hl, hot, k⟩ := h
    refine ⟨_, (C8.pss_cut (ps_set (i := 3) sc__law_right.nd rfl (Or.inl rfl) (C8.pe_c c_told hr (by decide) (by rfl) (pa_cons (pv 0) (pa_cons (pv 1) pa_nil)))) (C8.pss_cut (ps_if (PW.pt (pw_or (pt_not (pt_val (pe_callB cr_isO (by rfl) T.n_isinstance (by decide +kernel) (pa_cons (pv 3) (pa_cons (pe_glob (v := .ref cs.c_Answer) (by rfl) T.g_Answer rfl) pa_nil))))) (pw_or1 (pt_cmpR op_eq (pe_callB cr_isO (by rfl) T.n_isinstance (by decide +kernel) (pa_cons (pv 3) (pa_cons (pe_glob (v := .ref cs.c_Lost) (by rfl) T.g_Lost rfl) pa_nil))) (pe_callB cr_isO (by rfl) T.n_isinstance (by decide +kernel) (pa_cons (pv 3) (pa_cons (pe_glob (v := .ref cs.c_Won) (by rfl) T.g_Won rfl) pa_nil))) (nomark _))))) (pss_one (ps_ret pe_bl)) pss_nil) (C8.pss_cut (ps_if (pt_cmpR op_ne (pe_callB cr_isO (by rfl) T.n_isinstance (by decide +kernel) (pa_cons (pv 3) (pa_cons (pe_glob (v := .ref cs.c_Lost) (by rfl) T.g_Lost rfl) pa_nil))) (C8.pe_c c__law_lost hr (by decide) (by rfl) (pa_cons (pv 0) (pa_cons (pv 1) pa_nil))) (nomark _)) (pss_one (ps_ret pe_bl)) pss_nil) (C8.pss_cut (ps_if (PW.pt (pw_and (pt_val (pe_callB cr_isO (by rfl) T.n_isinstance (by decide +kernel) (pa_cons (pv 3) (pa_cons (pe_glob (v := .ref cs.c_Lost) (by rfl) T.g_Lost rfl) pa_nil)))) (pw_and1 (PW.pt (pw_or (pt_not (pt_val (C8.pe_c c__law_whole hr (by decide) (by rfl) (pa_cons (pe_fld (pv 3) rfl) pa_nil)))) (pw_or1 (pt_cmp (pc_lt (pe_fld (pv 3) rfl) pe_int)))))))) (pss_one (ps_ret pe_bl)) pss_nil) (C8.pss_cut (ps_if (PW.pt (pw_and (pt_val (pe_callB cr_isO (by rfl) T.n_isinstance (by decide +kernel) (pa_cons (pv 3) (pa_cons (pe_glob (v := .ref cs.c_Won) (by rfl) T.g_Won rfl) pa_nil)))) (pw_and1 (pt_not (pt_val (C8.pe_c c__law_is_pair hr (by decide) (by rfl) (pa_cons (pe_fld (pv 3) rfl) pa_nil))))))) (pss_one (ps_ret pe_bl)) pss_nil) (C8.pss_cut (ps_if (PW.pt (pw_or (pt_not (pt_val (C8.pe_c c__law_due hr (by decide) (by rfl) (pa_cons (pv 0) (pa_cons (pv 1) (pa_cons (pv 3) pa_nil)))))) (pw_or1 (pt_cmpR op_isnot_bl (pe_mt2 c_Lost_shows c_Won_shows hr (by decide) (by decide) (pv 3) (pa_cons (pv 0) (pa_cons (pv 1) pa_nil))) pe_bl (nomark _))))) (pss_one (ps_ret pe_bl)) pss_nil) (pss_cons (ps_for PassesOwn.never rfl (pi_list (pv 2)) (pg_tup rfl (pgs_cons (pg_name (i := 4) sc__law_right.nd rfl (Or.inl rfl)) (pgs_cons (pg_name (i := 5) sc__law_right.nd rfl (Or.inl rfl)) pgs_nil))) (pss_one (ps_if (pt_not (pt_val (C8.pe_c c__law_says hr (by decide) (by rfl) (pa_cons (pe_mt2 c_Lost_shows c_Won_shows hr (by decide) (by decide) (pv 3) (pa_cons (pv 4) (pa_cons (pv 5) pa_nil))) (pa_cons (C8.pe_c c__law_due hr (by decide) (by rfl) (pa_cons (pv 4) (pa_cons (pv 5) (pa_cons (pv 3) pa_nil)))) pa_nil))))) (pss_one (ps_ret pe_bl)) pss_nil))) (pss_cons (ps_if (pt_val (pe_callB cr_isO (by rfl) T.n_isinstance (by decide +kernel) (pa_cons (pv 3) (pa_cons (pe_glob (v := .ref cs.c_Won) (by rfl) T.g_Won rfl) pa_nil)))) (pss_cons (ps_set (i := 6) sc__law_right.nd rfl (Or.inl rfl) (C8.pe_c c_left hr (by decide) (by rfl) (pa_cons (pv 0) (pa_cons (pv 1) (pa_cons (pe_fld (pv 3) rfl) pa_nil))))) (pss_one (ps_ret (pe_and (C8.pe_c c__law_is_pair hr (by decide) (by rfl) (pa_cons (pv 6) pa_nil)) (pe_one (pe_callB cr_isO (by rfl) T.n_isinstance (by decide +kernel) (pa_cons (C8.pe_c c_told hr (by decide) (by rfl) (pa_cons (pv 0) (pa_cons (pv 6) pa_nil))) (pa_cons (pe_glob (v := .ref cs.c_Lost) (by rfl) T.g_Lost rfl) pa_nil)))))))) pss_nil) (pss_one (ps_ret pe_bl)))))))))), ?_⟩
    have sb' : Sm 310 b := sm_mono sb (by decide)
    have si' : Sm 310 i := sm_mono si (by decide)
    have sj' : Sm 310 j := sm_mono sj (by decide)
    -- what is told
    refine ⟨fun σ H' => ∃ (x : Addr) (f : Int → Int → Int → Bool), σ = [some (.int b), some (.ref p), some (.ref l), some (.ref x), none, none, none] ∧ Evl.Ex H H' ∧ f b i j = true ∧
        ((∃ n, LostAt cs H' x n ∧ 0 ≤ n ∧ Sm 900 n ∧ Th.nof b i j = some n ∧ ∀ b i j, f b i j = decide (Th.nof b i j = some n)) ∨
         (∃ u v, WonAt cs H' x u v ∧ Th.nof b i j = none ∧ Th.may b i j u v ∧ (Th.nof b (i - u) (j - v)).isSome = true ∧ ∀ b i j, f b i j = decide (Th.may b i j u v ∧ (Th.nof b (i - u) (j - v)).isSome = true))), ?_, ?_⟩
    · refine ⟨_, rfl, _, rfl, b, p, i, j, rfl, hp, hb, hi, hj, sm_mono sb (by decide), sm_mono si (by decide), sm_mono sj (by decide), fun n x H1 en e1 hx => ?_, fun x H1 en e1 hx => ?_⟩
      · obtain ⟨n0, nA, nB⟩ := Th.nof_some hb en
        have gA := Th.A_ge hb n0
        have sn : Sm 900 n := by
          by_cases c : i ≤ j
          · exact sm_mono (sm_le si n0 (by omega)) (by decide)
          · exact sm_mono (sm_le sj n0 (by omega)) (by decide)
        exact ⟨x, fun b i j => decide (Th.nof b i j = some n), rfl, e1, decide_eq_true en, .inl ⟨n, hx, n0, sn, en, fun _ _ _ => rfl⟩⟩
      · have l0 : ¬ Th.Lo b i j := fun z => by
          have := (Th.nof_lo hb).mpr z
          rw [en] at this
          cases this
        obtain ⟨w1, w2⟩ := Th.win_spec hb hi hj l0
        have w3 := (Th.nof_lo hb).mpr w2
        exact ⟨x, fun b' i' j' => decide (Th.may b' i' j' (Th.win b i j).1 (Th.win b i j).2 ∧ (Th.nof b' (i' - (Th.win b i j).1) (j' - (Th.win b i j).2)).isSome = true), rfl, e1, decide_eq_true ⟨w1, w3⟩, .inr ⟨_, _, hx, en, w1, w3, fun _ _ _ => rfl⟩⟩
    rintro σ H1 ⟨x, f, rfl, e1, hft, hx⟩
    have hp1 := e1 _ _ hp
    have tl : Tells cs H1 x f := by
      rcases hx with ⟨n, a, b, c, d, e⟩ | ⟨u, v, a, b, c, d, e⟩
      · exact .inl ⟨n, a, b, c, e⟩
      · exact .inr ⟨u, v, a, e⟩
    -- of one class
    refine ⟨fun σ H' => σ = [some (.int b), some (.ref p), some (.ref l), some (.ref x), none, none, none] ∧ H1 = H', ?_, ?_⟩
    · rcases hx with ⟨n, ⟨dx, hx⟩, _⟩ | ⟨u, v, ⟨dx, q, hx, hq⟩, _⟩
      · exact ⟨_, rfl, x, _, dx, _, cs.c_Answer, true, rfl, hx, T.in_Lost, T.k_LA, _, rfl, ifF rfl ⟨_, rfl, x, _, dx, _, cs.c_Lost, true, rfl, hx, T.in_Lost, T.k_LL, _, rfl, x, _, dx, _, cs.c_Won, false, rfl, hx, T.in_Lost, T.k_LW, rfl, _, rfl, ifF (by decide) ⟨rfl, rfl⟩⟩⟩
      · exact ⟨_, rfl, x, _, dx, _, cs.c_Answer, true, rfl, hx, T.in_Won, T.k_WA, _, rfl, ifF rfl ⟨_, rfl, x, _, dx, _, cs.c_Lost, false, rfl, hx, T.in_Won, T.k_WL, _, rfl, x, _, dx, _, cs.c_Won, true, rfl, hx, T.in_Won, T.k_WW, rfl, _, rfl, ifF (by decide) ⟨rfl, rfl⟩⟩⟩
    rintro σ H' ⟨rfl, rfl⟩
    -- the class that is due
    refine ⟨fun σ H' => σ = [some (.int b), some (.ref p), some (.ref l), some (.ref x), none, none, none] ∧ Evl.Ex H1 H', ?_, ?_⟩
    · rcases hx with ⟨n, ⟨dx, hx⟩, _, _, en, _⟩ | ⟨u, v, ⟨dx, q, hx, hq⟩, en, _⟩
      · exact ⟨_, rfl, x, _, dx, _, cs.c_Lost, true, rfl, hx, T.in_Lost, T.k_LL, _, rfl, _, rfl, b, p, i, j, rfl, hp1, hb, sm_mono sb (by decide), sm_mono si (by decide), sm_mono sj (by decide), fun H2 e2 => ⟨rfl, _, rfl, ifF (by rw [en]; rfl) ⟨rfl, e2⟩⟩⟩
      · exact ⟨_, rfl, x, _, dx, _, cs.c_Lost, false, rfl, hx, T.in_Won, T.k_WL, _, rfl, _, rfl, b, p, i, j, rfl, hp1, hb, sm_mono sb (by decide), sm_mono si (by decide), sm_mono sj (by decide), fun H2 e2 => ⟨rfl, _, rfl, ifF (by rw [en]; rfl) ⟨rfl, e2⟩⟩⟩
    rintro σ H2 ⟨rfl, e2⟩
    -- its number
    refine ⟨fun σ H' => σ = [some (.int b), some (.ref p), some (.ref l), some (.ref x), none, none, none] ∧ H2 = H', ?_, ?_⟩
    · rcases hx with ⟨n, ⟨dx, hx⟩, n0, _, en, _⟩ | ⟨u, v, ⟨dx, q, hx, hq⟩, en, _⟩
      · exact ⟨_, rfl, x, _, dx, _, cs.c_Lost, true, rfl, e2 _ _ hx, T.in_Lost, T.k_LL, _, rfl, ifT rfl ⟨_, rfl, x, _, dx, _, _, rfl, e2 _ _ hx, T.cl_Lost, T.no_number, lk1, n, rfl, true, rfl, ifF rfl ⟨_, rfl, x, _, dx, _, _, rfl, e2 _ _ hx, T.cl_Lost, T.no_number, lk1, _, _, rfl, rfl, _, rfl, ifF (decide_eq_false (by omega)) ⟨rfl, rfl⟩⟩⟩⟩
      · exact ⟨_, rfl, x, _, dx, _, cs.c_Lost, false, rfl, e2 _ _ hx, T.in_Won, T.k_WL, _, rfl, ifF rfl (ifF rfl ⟨rfl, rfl⟩)⟩
    rintro σ H' ⟨rfl, rfl⟩
    -- its taking
    refine ⟨fun σ H' => σ = [some (.int b), some (.ref p), some (.ref l), some (.ref x), none, none, none] ∧ H2 = H', ?_, ?_⟩
    · rcases hx with ⟨n, ⟨dx, hx⟩, _⟩ | ⟨u, v, ⟨dx, q, hx, hq⟩, _⟩
      · exact ⟨_, rfl, x, _, dx, _, cs.c_Won, false, rfl, e2 _ _ hx, T.in_Lost, T.k_LW, _, rfl, ifF rfl (ifF rfl ⟨rfl, rfl⟩)⟩
      · exact ⟨_, rfl, x, _, dx, _, cs.c_Won, true, rfl, e2 _ _ hx, T.in_Won, T.k_WW, _, rfl, ifT rfl ⟨_, rfl, x, _, dx, _, _, rfl, e2 _ _ hx, T.cl_Won, T.no_taking, lk1, q, u, v, rfl, e2 _ _ hq, true, rfl, ifF rfl ⟨rfl, rfl⟩⟩⟩
    rintro σ H' ⟨rfl, rfl⟩
    have tl2 := tells_mono e2 tl
    have hp2 := e2 _ _ hp1
    -- as is due, its own word
    refine ⟨fun σ H' => σ = [some (.int b), some (.ref p), some (.ref l), some (.ref x), none, none, none] ∧ Evl.Ex H2 H', ?_, ?_⟩
    · refine ⟨_, rfl, _, rfl, _, rfl, b, p, i, j, x, f, rfl, hp2, hb, hi, hj, sb', si', sj', tl2, fun H3 e3 => ⟨_, rfl, ifF (by rw [hft]; rfl) ?_⟩⟩
      refine rd_shows (ix := 3) (p := p) (b := b) (i := i) (j := j) (f := f) rfl (tells_mono e3 tl2) (fun R q => ⟨_, rfl, _, rfl, q⟩) (e3 _ _ hp2) hb hi hj sb' si' sj' fun H4 e4 => ?_
      exact ⟨_, _, rfl, rfl, _, rfl, ifF (by rw [hft]; rfl) ⟨rfl, e3.trans e4⟩⟩
    rintro σ H3 ⟨rfl, e3⟩
    have e13 := e2.trans e3
    have e03 := e1.trans e13
    have tl3 := tells_mono e3 tl2
    have hl3 := e03 _ _ hl
    -- of others
    refine ⟨_, rfl, l, rfl, ⟨_, SqL.of hl3⟩, for_list (K := K) (a := l) (xs := xs) (fun n σ H' => Evl.Ex H3 H' ∧ ∃ v4 v5 v6 : Option V, σ = [some (.int b), some (.ref p), some (.ref l), some (.ref x), v4, v5, v6]) ⟨Evl.Ex.refl _, none, none, none, rfl⟩ (fun n σ H' _ ⟨e, _⟩ => SqL.of (e _ _ hl3)) ?_ ?_⟩
    · rintro n y σ H4 hy ⟨e4, v4, v5, v6, rfl⟩
      obtain ⟨t, b', p', i', j', rfl, ht, hp', hb', hi', hj', sb4, si4, sj4⟩ := ott_mono (e03.trans e4) (hot y (List.mem_of_getElem? hy))
      have tl4 := tells_mono e4 tl3
      refine ⟨t, _, rfl, SqT.of ht, rfl, _, _, rfl, _, _, rfl, rfl, ?_⟩
      refine rd_shows (ix := 3) (p := p') (b := b') (i := i') (j := j') (f := f) rfl tl4 (fun R q => ⟨_, rfl, _, rfl, q⟩) hp' hb' hi' hj' sb4 si4 sj4 fun H5 e5 => ?_
      refine ⟨_, rfl, _, rfl, _, rfl, b', p', i', j', x, f, rfl, e5 _ _ hp', hb', hi', hj', sb4, si4, sj4, tells_mono e5 tl4, fun H6 e6 => ⟨_, _, rfl, _, rfl, ifF (nd rfl) ?_⟩⟩
      exact ⟨e4.trans (e5.trans e6), _, _, _, rfl⟩
    rintro σ H4 ⟨e4, v4, v5, v6, rfl⟩
    have e14 := e13.trans e4
    have hp4 := e14 _ _ hp1
    rcases hx with ⟨n, ⟨dx, hx⟩, _⟩ | ⟨u, v, ⟨dx, q, hx, hq⟩, en, hm, hs, _⟩
    · exact ⟨_, rfl, x, _, dx, _, cs.c_Won, false, rfl, e14 _ _ hx, T.in_Lost, T.k_LW, _, rfl, ifF rfl (k _ (e1.trans e14))⟩
    · have m := hm
      unfold Th.may at m
      refine ⟨_, rfl, x, _, dx, _, cs.c_Won, true, rfl, e14 _ _ hx, T.in_Won, T.k_WW, _, rfl, ifT rfl ?_⟩
      refine ⟨_, rfl, _, rfl, _, rfl, x, _, dx, _, _, rfl, e14 _ _ hx, T.cl_Won, T.no_taking, lk1, b, p, q, i, j, u, v, rfl, hp4, e14 _ _ hq, hb, hi, hj, hm, fun r H5 e5 hr => ?_⟩
      have s1 : Sm 2800 (i - u) := sm_mono (sm_le si (by omega) (by omega)) (by decide)
      have s2 : Sm 2800 (j - v) := sm_mono (sm_le sj (by omega) (by omega)) (by decide)
      refine ⟨_, rfl, r, _, _, rfl, hr, true, rfl, ifT rfl ⟨_, rfl, _, rfl, b, r, i - u, j - v, rfl, hr, hb, (by omega), (by omega), sm_mono sb (by decide), s1, s2, fun n y H6 en6 e6 hy => ?_, fun y H6 en6 e6 hy => ?_⟩⟩
      · obtain ⟨dy, hy⟩ := hy
        exact ⟨y, _, dy, _, cs.c_Lost, true, rfl, hy, T.in_Lost, T.k_LL, k _ (e1.trans (e14.trans (e5.trans e6)))⟩
      · rw [en6] at hs
        cases hs
-- _law_takings_right: slots 0 bound_here, 1 heaps_here, 2 cell, 3 k, 4 part, 5 mine, 6 theirs, 7 taking, 8 behind
abbrev s__law_takings_right : Stmt := top 50
theorem sc__law_takings_right : FnScope ["_law_bound_here", "_law_heaps_here", "_law_cell", "_law_k", "_law_part", "_law_mine", "_law_theirs", "_law_taking", "_law_behind"] ["_law_bound_here", "_law_heaps_here", "_law_cell"] (defScope s__law_takings_right) := ⟨rfl, rfl, rfl, by decide +kernel, rfl, by decide +kernel, by decide +kernel⟩
def sp__law_takings_right (K : PySem.W.Frag) (cs : Cs) : Sp := fun vs H Q E => ∃ (b : Int) (p : Addr) (i j c : Int), vs = [.int b, .ref p, .int c] ∧ H p = some (.tup [.int i, .int j]) ∧ 1 ≤ b ∧ 0 ≤ i ∧ 0 ≤ j ∧ Sm 301 b ∧ Sm 301 i ∧ Sm 301 j ∧ ∀ H', Evl.Ex H H' → Q (.bl true) H'
theorem ok__law_takings_right {f : Addr} {fd : FuncData} (F : L2.Fun K "_law_takings_right" "_law_takings_right" s__law_takings_right f fd) (T : Txt K mg cs)
    (c__law_may : C8.Cal P w K mg base 1 "_law_may" (sp__law_may K cs) [])
    (c__law_says : C8.Cal P w K mg base 1 "_law_says" (sp__law_says K cs) [])
    (c__law_lost : C8.Cal P w K mg base 3 "_law_lost" (sp__law_lost K cs) [])
    (c_can : C8.Cal P w K mg base 5 "can" (sp_can K cs) [])
    (c_left : C8.Cal P w K mg base 6 "left" (sp_left K cs) [])
    (c_told : C8.Cal P w K mg base 8 "told" (sp_told K cs) [])
    (c__law_refused : C8.Cal P w K mg base 8 "_law_refused" (sp__law_refused K cs) []) : FnOk P w K mg base CX0 9 f fd ["_law_bound_here", "_law_heaps_here", "_law_cell"] (sp__law_takings_right K cs) := by
  refine F.ok sc__law_takings_right (fun vs H Q E h => ?_) (fun cdv A outer s H vs Q E hr h => ?_)
  · obtain ⟨_, _, _, _, _, rfl, _⟩ := h
    rfl
  · obtain ⟨b, p, i, j, c, rfl, hp, hb, hi, hj, sb, si, sj, k⟩ := h
    refine ⟨_, (pss_cons (ps_for PassesOwn.never rfl (pi_range1 (by rfl) T.n_range (pa_cons pe_int pa_nil)) (pg_name (i := 3) sc__law_takings_right.nd rfl (Or.inl rfl)) (pss_cons (ps_set (i := 4) sc__law_takings_right.nd rfl (Or.inl rfl) (pe_op op_add (pe_op op_fdivW (pv 2) (pe_ix ix_tup (pe_tup (pa_cons pe_int (pa_cons pe_int (pa_cons pe_int (pa_cons pe_int pa_nil))))) (pv 3) (fun _ _ => rfl))) (pe_op op_mulX pe_int (pv 3)))) (pss_cons (ps_set (i := 5) sc__law_takings_right.nd rfl (Or.inl rfl) (pe_op op_mulX (pe_op op_mod (pv 4) (pe_op op_add (pe_ix ix_tup (pv 1) pe_int (fun _ _ => rfl)) pe_int)) (pe_callB (call_min2 rfl) (by rfl) T.n_min (by decide +kernel) (pa_cons pe_int (pa_cons (pe_op op_mod (pv 3) pe_int) pa_nil))))) (pss_cons (ps_set (i := 6) sc__law_takings_right.nd rfl (Or.inl rfl) (pe_op op_mulX (pe_op op_mod (pe_op op_fdivW (pv 4) pe_int) (pe_op op_add (pe_ix ix_tup (pv 1) pe_int (fun _ _ => rfl)) pe_int)) (pe_op op_mod (pv 3) pe_int))) (C8.pss_cut (ps_if (pt_cmp (pc_gt (pv 3) pe_int)) (pss_cons (ps_set (i := 5) sc__law_takings_right.nd rfl (Or.inl rfl) (pe_op op_mod (pv 4) (pe_op op_add (pe_ix ix_tup (pv 1) pe_int (fun _ _ => rfl)) pe_int))) (pss_one (ps_set (i := 6) sc__law_takings_right.nd rfl (Or.inl rfl) (pe_op op_add (pv 5) (pe_op op_mulX (pe_op op_sub (pe_op op_mod (pv 2) pe_int) pe_int) (pe_callB (call_max2 rfl) (by rfl) T.n_max (by decide +kernel) (pa_cons pe_int (pa_cons (pe_op op_fdivW (pv 0) pe_int) pa_nil)))))))) pss_nil) (pss_cons (ps_set (i := 7) sc__law_takings_right.nd rfl (Or.inl rfl) (pe_pair (pv 5) (pv 6))) (pss_cons (ps_if (pt_not (pt_val (C8.pe_c c__law_says hr (by decide) (by rfl) (pa_cons (C8.pe_c c_can hr (by decide) (by rfl) (pa_cons (pv 0) (pa_cons (pv 1) (pa_cons (pv 7) pa_nil)))) (pa_cons (C8.pe_c c__law_may hr (by decide) (by rfl) (pa_cons (pv 0) (pa_cons (pv 1) (pa_cons (pv 7) pa_nil)))) pa_nil))))) (pss_one (ps_ret pe_bl)) pss_nil) (pss_one (ps_if (pt_not (pt_val (C8.pe_c c__law_may hr (by decide) (by rfl) (pa_cons (pv 0) (pa_cons (pv 1) (pa_cons (pv 7) pa_nil)))))) (pss_one (ps_if (pt_not (pt_val (C8.pe_c c__law_refused hr (by decide) (by rfl) (pa_cons (pv 0) (pa_cons (pv 1) (pa_cons (pv 7) pa_nil)))))) (pss_one (ps_ret pe_bl)) pss_nil)) (pss_cons (ps_set (i := 8) sc__law_takings_right.nd rfl (Or.inl rfl) (C8.pe_c c_left hr (by decide) (by rfl) (pa_cons (pv 0) (pa_cons (pv 1) (pa_cons (pv 7) pa_nil))))) (pss_cons (ps_if (pt_cmpR (op_neP hr.units) (pv 8) (pe_pair (pe_op op_sub (pe_ix ix_tup (pv 1) pe_int (fun _ _ => rfl)) (pv 5)) (pe_op op_sub (pe_ix ix_tup (pv 1) pe_int (fun _ _ => rfl)) (pv 6))) (nomark _)) (pss_one (ps_ret pe_bl)) pss_nil) (pss_one (ps_if (PW.pt (pw_and (pt_val (C8.pe_c c__law_lost hr (by decide) (by rfl) (pa_cons (pv 0) (pa_cons (pv 1) pa_nil)))) (pw_and1 (pt_not (pt_val (pe_callB cr_isO (by rfl) T.n_isinstance (by decide +kernel) (pa_cons (C8.pe_c c_told hr (by decide) (by rfl) (pa_cons (pv 0) (pa_cons (pv 8) pa_nil))) (pa_cons (pe_glob (v := .ref cs.c_Won) (by rfl) T.g_Won rfl) pa_nil)))))))) (pss_one (ps_ret pe_bl)) pss_nil))))))))))))) (pss_one (ps_ret pe_bl))), ?_⟩
    refine ⟨4, rfl, (by decide), (by decide), ?_⟩
    refine for_range (lo := 0) (n := 4) (fun n σ H' => Evl.Ex H H' ∧ ∃ v3 v4 v5 v6 v7 v8 : Option V, σ = [some (.int b), some (.ref p), some (.int c), v3, v4, v5, v6, v7, v8]) ⟨Evl.Ex.refl _, none, none, none, none, none, none, rfl⟩ ?_ ?_
    rotate_left
    · rintro σ H1 ⟨e1, v3, v4, v5, v6, v7, v8, rfl⟩
      exact k _ e1
    rintro n σ H1 hn ⟨e1, v3, v4, v5, v6, v7, v8, rfl⟩
    rw [Int.zero_add]
    obtain ⟨kk, hkk⟩ : ∃ kk : Int, kk = n := ⟨_, rfl⟩
    rw [← hkk]
    have k0 : 0 ≤ kk := by omega
    have k1 : kk < 4 := by omega
    have sk : Sm 3 kk := by unfold Sm; omega
    have hp1 := e1 _ _ hp
    -- the part
    refine ⟨_, rfl, (by show 4 ≤ sizeLine; decide), fun q hq => ?_⟩
    obtain ⟨v, hv, hmem⟩ := at_in (xs := [.int 1, .int 7, .int 49, .int 343]) k0 (by show kk < 4; exact k1)
    obtain ⟨t, rfl, t0, st⟩ : ∃ t : Int, v = .int t ∧ 0 < t ∧ Sm 9 t := by
      simp only [List.mem_cons, List.not_mem_nil, or_false] at hmem
      rcases hmem with h | h | h | h <;> exact ⟨_, h, by decide, by unfold Sm; decide⟩
    refine ⟨_, rfl, q, _, _, _, rfl, rfl, SqT.of upd_same, hv, _, _, rfl, rfl, divw t0 st, _, rfl, _, _, rfl, rfl, mulx (sm_lit (a := 10) (by decide)) sk, _, _, rfl, rfl, ?_⟩
    have e2 : Evl.Ex H1 (upd H1 q (.tup [.int 1, .int 7, .int 49, .int 343])) := ex_new hq
    generalize upd H1 q (.tup [.int 1, .int 7, .int 49, .int 343]) = H2 at e2
    have hp2 := e2 _ _ hp1
    have m3 : (if kk % 3 < 1 then kk % 3 else 1) = min 1 (kk % 3) := by split <;> omega
    have i2 : 0 < i + 2 := by omega
    have j2 : 0 < j + 2 := by omega
    have sx : Sm 303 ((c / t + 977 * kk) % (i + 2)) := sm_le (sm_add (sm_mono si (by decide)) (sm_mono (sm_lit (a := 2) (by decide)) (by decide))) (Int.emod_nonneg _ (by omega)) (Int.le_of_lt (Int.emod_lt_of_pos _ i2))
    have sy : Sm 303 ((c / t + 977 * kk) / 5 % (j + 2)) := sm_le (sm_add (sm_mono sj (by decide)) (sm_mono (sm_lit (a := 2) (by decide)) (by decide))) (Int.emod_nonneg _ (by omega)) (Int.le_of_lt (Int.emod_lt_of_pos _ j2))
    refine ⟨_, rfl, _, rfl, p, _, _, _, rfl, rfl, SqT.of hp2, at0, _, _, rfl, rfl, _, _, rfl, rfl, i2, _, rfl, _, _, rfl, rfl, (by show (0 : Int) < 3; decide), _, _, rfl, _, _, rfl, rfl, mulx sx (show Sm 3 (if kk % 3 < 1 then kk % 3 else 1) by rw [m3]; unfold Sm; omega), ?_⟩
    refine ⟨_, rfl, _, _, rfl, rfl, divw (b := 3) (by decide) (sm_lit (by decide)), _, rfl, p, _, _, _, rfl, rfl, SqT.of hp2, at1, _, _, rfl, rfl, _, _, rfl, rfl, j2, _, rfl, _, _, rfl, rfl, (by show (0 : Int) < 2; decide), _, _, rfl, rfl, mulx sy (show Sm 3 (kk % 2) by unfold Sm; omega), ?_⟩
    -- almost alike
    refine ⟨fun σ H' => ∃ x y : Int, σ = [some (.int b), some (.ref p), some (.int c), some (.int kk), some (.int (c / t + 977 * kk)), some (.int x), some (.int y), v7, v8] ∧ H2 = H', ?_, ?_⟩
    · refine ⟨_, rfl, _, _, rfl, rfl, _, rfl, if2 (fun _ => ?_) (fun _ => ⟨_, _, rfl, rfl⟩)⟩
      have s7 : Sm 4 (c % 7 - 3) := by
        have := Int.emod_nonneg c (show (7 : Int) ≠ 0 by decide)
        have := Int.emod_lt_of_pos c (show (0 : Int) < 7 by decide)
        unfold Sm
        omega
      have d0 : 0 ≤ b / 2 := by omega
      have s8 : Sm 301 (if b / 2 > 1 then b / 2 else 1) := by
        split
        · exact sm_le sb d0 (by omega)
        · exact sm_mono (sm_lit (a := 1) (by decide)) (by decide)
      refine ⟨_, rfl, _, rfl, p, _, _, _, rfl, rfl, SqT.of hp2, at0, _, _, rfl, rfl, _, _, rfl, rfl, i2, ?_⟩
      refine ⟨_, rfl, _, rfl, _, _, rfl, rfl, (by show (0 : Int) < 7; decide), _, _, rfl, rfl, _, rfl, _, _, rfl, rfl, divw (b := 3) (by decide) (sm_lit (by decide)), _, _, rfl, _, _, rfl, rfl, mulx s7 s8, _, _, rfl, rfl, ?_⟩
      exact ⟨_, _, rfl, rfl⟩
    rintro σ H' ⟨x, y, rfl, rfl⟩
    refine ⟨_, rfl, _, rfl, _, _, rfl, fun q H3 e3 hq3 => ?_⟩
    have hp3 := e3 _ _ hp2
    have e03 := e1.trans (e2.trans e3)
    -- which can be
    refine ⟨_, rfl, _, rfl, _, rfl, b, p, q, i, j, x, y, rfl, hp3, hq3, hb, hi, hj, _, rfl, _, rfl, _, rfl, b, p, q, i, j, x, y, rfl, hp3, hq3, _, _, rfl, _, rfl, ifF (nd rfl) ?_⟩
    refine ⟨_, rfl, _, rfl, _, rfl, b, p, q, i, j, x, y, rfl, hp3, hq3, _, rfl, if2 (fun d => ?_) (fun d => ?_)⟩
    · have d' : ¬ Th.may b i j x y := fun h => by rw [nd h] at d; cases d
      refine ⟨_, rfl, _, rfl, _, rfl, b, p, q, i, j, x, y, rfl, hp3, hq3, hb, hi, hj, d', true, rfl, ifF rfl ?_⟩
      exact ⟨e03, _, _, _, _, _, _, rfl⟩
    have d' : Th.may b i j x y := by
      by_cases h : Th.may b i j x y
      · exact h
      · rw [nd1 h] at d
        cases d
    have m := d'
    unfold Th.may at m
    refine ⟨_, rfl, _, rfl, _, rfl, b, p, q, i, j, x, y, rfl, hp3, hq3, hb, hi, hj, d', fun r H4 e4 hr => ?_⟩
    have hp4 := e4 _ _ hp3
    refine ⟨_, rfl, _, rfl, p, _, _, _, rfl, rfl, SqT.of hp4, at0, _, rfl, _, _, rfl, rfl, _, rfl, p, _, _, _, rfl, rfl, SqT.of hp4, at1, _, rfl, _, _, rfl, rfl, _, _, rfl, fun r2 H5 e5 hr2 => ⟨r, r2, _, _, _, _, rfl, rfl, e5 _ _ hr, hr2, _, rfl, ifF (nd ⟨rfl, rfl⟩) ?_⟩⟩
    refine ⟨_, rfl, _, rfl, b, p, i, j, rfl, e5 _ _ hp4, hb, sm_mono sb (by decide), sm_mono si (by decide), sm_mono sj (by decide), fun H6 e6 => ⟨_, rfl, if2 (fun t1 => ?_) (fun t1 => ?_)⟩⟩
    · have lo := (Th.nof_lo hb).mp t1
      have no := Th.lost_no hb lo d'
      refine ⟨_, rfl, _, rfl, b, r, i - x, j - y, rfl, e6 _ _ (e5 _ _ hr), hb, (by omega), (by omega), sm_mono sb (by decide), sm_mono (sm_le si (by omega) (by omega)) (by decide), sm_mono (sm_le sj (by omega) (by omega)) (by decide), fun n7 z H7 en7 e7 hz => ?_, fun z H7 en7 e7 hz => ?_⟩
      · exact absurd ((Th.nof_lo hb).mp (by rw [en7]; rfl)) no
      · obtain ⟨dz, qz, hz, _⟩ := hz
        refine ⟨z, _, dz, _, cs.c_Won, true, rfl, hz, T.in_Won, T.k_WW, _, rfl, ifF rfl ?_⟩
        exact ⟨e03.trans (e4.trans (e5.trans (e6.trans e7))), _, _, _, _, _, _, rfl⟩
    · exact ifF rfl ⟨e03.trans (e4.trans (e5.trans e6)), _, _, _, _, _, _, rfl⟩
-- law: slots 0 script, 1 k, 2 bound_here, 3 heaps_here, 4 others, 5 found, 6 other
abbrev s_law : Stmt := top 51
theorem sc_law : FnScope ["_law_script", "_law_k", "_law_bound_here", "_law_heaps_here", "_law_others", "_law_found", "_law_other"] ["_law_script"] (defScope s_law) := ⟨rfl, rfl, rfl, by decide +kernel, rfl, by decide +kernel, by decide +kernel⟩
def sp_law (K : PySem.W.Frag) (cs : Cs) : Sp := fun vs H Q E => ∃ (a : Addr) (ns : List Int), vs = [.ref a] ∧ SqL K H a (ns.map V.int) ∧ CellsSm ns ∧ ns.length ≤ 63 ∧ ∀ H', Q (.bl true) H'
theorem ok_law {f : Addr} {fd : FuncData} (F : L2.Fun K "law" "law" s_law f fd) (T : Txt K mg cs)
    (c__law_cell_at : C8.Cal P w K mg base 1 "_law_cell_at" (sp__law_cell_at K cs) [])
    (c__law_bound : C8.Cal P w K mg base 3 "_law_bound" (sp__law_bound K cs) [])
    (c__law_heaps : C8.Cal P w K mg base 3 "_law_heaps" (sp__law_heaps K cs) [])
    (c_told : C8.Cal P w K mg base 8 "told" (sp_told K cs) [])
    (c__law_right : C8.Cal P w K mg base 9 "_law_right" (sp__law_right K cs) [])
    (c__law_takings_right : C8.Cal P w K mg base 9 "_law_takings_right" (sp__law_takings_right K cs) []) : FnOk P w K mg base CX0 10 f fd ["_law_script"] (sp_law K cs) := by
  refine F.ok sc_law (fun vs H Q E h => ?_) (fun cdv A outer s H vs Q E hr h => ?_)
  · obtain ⟨_, _, rfl, _⟩ := h
    rfl
  · obtain ⟨a, ns, rfl, hs, hz, hl, k⟩ := h
    refine ⟨_, (pss_cons (ps_set (i := 0) sc_law.nd rfl (Or.inl rfl) (pe_slice sl_list (pv 0) po_none (po_some pe_int))) (pss_cons (ps_for PassesOwn.never rfl (pi_range3 (by rfl) T.n_range (pa_cons pe_int (pa_cons (pe_callB call_len_seq (by rfl) T.n_len (by decide +kernel) (pa_cons (pv 0) pa_nil)) (pa_cons (pe_op op_add pe_int (pe_op op_fdivW (pe_callB call_len_seq (by rfl) T.n_len (by decide +kernel) (pa_cons (pv 0) pa_nil)) pe_int)) pa_nil)))) (pg_name (i := 1) sc_law.nd rfl (Or.inl rfl)) (pss_cons (ps_set (i := 2) sc_law.nd rfl (Or.inl rfl) (C8.pe_c c__law_bound hr (by decide) (by rfl) (pa_cons (pv 0) (pa_cons (pv 1) pa_nil)))) (pss_cons (ps_set (i := 3) sc_law.nd rfl (Or.inl rfl) (C8.pe_c c__law_heaps hr (by decide) (by rfl) (pa_cons (pv 0) (pa_cons (pv 1) (pa_cons (pv 2) pa_nil))))) (pss_cons (ps_set (i := 4) sc_law.nd rfl (Or.inl rfl) (pe_lstE (pa_cons (pe_tupE (pa_cons (pv 2) (pa_cons (pe_revT (pv 3)) pa_nil))) (pa_cons (pe_tupE (pa_cons (pe_op op_add (pv 2) pe_int) (pa_cons (pv 3) pa_nil))) (pa_cons (pe_tupE (pa_cons (pv 2) (pa_cons (pe_pair (pe_op op_add (pe_ix ix_tup (pv 3) pe_int (fun _ _ => rfl)) pe_int) (pe_ix ix_tup (pv 3) pe_int (fun _ _ => rfl))) pa_nil))) pa_nil))))) (pss_cons (ps_if (pt_not (pt_val (C8.pe_c c__law_right hr (by decide) (by rfl) (pa_cons (pv 2) (pa_cons (pv 3) (pa_cons (pv 4) pa_nil)))))) (pss_one (ps_ret pe_bl)) pss_nil) (pss_one (ps_if (pt_not (pt_val (C8.pe_c c__law_takings_right hr (by decide) (by rfl) (pa_cons (pv 2) (pa_cons (pv 3) (pa_cons (pe_callB call_abs (by rfl) T.n_abs (by decide +kernel) (pa_cons (C8.pe_c c__law_cell_at hr (by decide) (by rfl) (pa_cons (pv 0) (pa_cons (pe_op op_add (pv 1) pe_int) pa_nil))) pa_nil)) pa_nil)))))) (pss_one (ps_ret pe_bl)) pss_nil))))))) (pss_cons (ps_par (i := 5) (j := 6) (by rfl) sc_law.nd rfl rfl (by decide) rfl rfl (pa_cons (C8.pe_c c_told hr (by decide) (by rfl) (pa_cons pe_int (pa_cons (pe_pair pe_int pe_int) pa_nil))) (pa_cons (C8.pe_c c_told hr (by decide) (by rfl) (pa_cons pe_int (pa_cons (pe_pair pe_int pe_int) pa_nil))) pa_nil)) (by rfl)) (pss_cons (ps_if (PW.pt (pw_or (pt_not (pt_val (pe_callB cr_isO (by rfl) T.n_isinstance (by decide +kernel) (pa_cons (pv 5) (pa_cons (pe_glob (v := .ref cs.c_Lost) (by rfl) T.g_Lost rfl) pa_nil))))) (pw_or (pt_cmp (pc_neI (pe_fld (pv 5) rfl) pe_int)) (pw_or (pt_not (pt_val (pe_callB cr_isO (by rfl) T.n_isinstance (by decide +kernel) (pa_cons (pv 6) (pa_cons (pe_glob (v := .ref cs.c_Lost) (by rfl) T.g_Lost rfl) pa_nil))))) (pw_or1 (pt_cmp (pc_neI (pe_fld (pv 6) rfl) pe_int))))))) (pss_one (ps_ret pe_bl)) pss_nil) (pss_one (ps_ret (pe_and (pe_callB cr_isO (by rfl) T.n_isinstance (by decide +kernel) (pa_cons (C8.pe_c c_told hr (by decide) (by rfl) (pa_cons pe_int (pa_cons (pe_pair pe_int pe_int) pa_nil))) (pa_cons (pe_glob (v := .ref cs.c_Won) (by rfl) T.g_Won rfl) pa_nil))) (pe_one (pe_callB cr_isO (by rfl) T.n_isinstance (by decide +kernel) (pa_cons (C8.pe_c c_told hr (by decide) (by rfl) (pa_cons (pe_op op_pow pe_int pe_int) (pa_cons (pe_pair pe_int (pe_op op_add (pe_op op_pow pe_int pe_int) pe_int)) pa_nil))) (pa_cons (pe_glob (v := .ref cs.c_Lost) (by rfl) T.g_Lost rfl) pa_nil))))))))))), ?_⟩
    refine ⟨_, rfl, _, rfl, a, _, rfl, hs, fun p hp => ?_⟩
    rw [cut63 hl]
    have hs1 : SqL K (upd H p (.lst (ns.map V.int))) p (ns.map V.int) := SqL.of upd_same
    generalize upd H p (.lst (ns.map V.int)) = H1 at hs1
    obtain ⟨cn, hcn, hrg⟩ := rg_of (d := 8) hl (by decide) (rg_all ⟨ns.length, by omega⟩).2.2
    obtain ⟨st1, st2⟩ := step_le (d := 8) hl (by decide)
    have hlen : (ns.map V.int).length = ns.length := List.length_map ..
    refine ⟨_, rfl, p, _, rfl, .inl hs1, _, rfl, p, _, rfl, .inl hs1, _, _, rfl, rfl, divw (b := 4) (by decide) (sm_lit (by decide)), _, _, rfl, rfl, 0, _, _, cn, rfl, (by rw [hlen]; exact hrg), ?_⟩
    rw [hlen]
    refine for_rangeC (lo := 0) (n := cn) (fun i σ H' => Evl.Ex H1 H' ∧ ∃ v1 v2 v3 v4 v5 v6 : Option V, σ = [some (.ref p), v1, v2, v3, v4, v5, v6]) ⟨Evl.Ex.refl _, none, none, none, none, none, none, rfl⟩ ?_ ?_
    · rintro i0 σ H2 hi0 ⟨e2, v1, v2, v3, v4, v5, v6, rfl⟩
      obtain ⟨j0, j1⟩ := place_le hi0 hcn st1 st2
      generalize 0 + (i0 : Int) * (1 + (ns.length : Int) / ((8 : Nat) : Int)) = jj at j0 j1
      have hs2 := Evl.ex_l e2 hs1
      refine ⟨_, rfl, _, rfl, p, ns, jj, rfl, hs2, hz, j0, (by omega), fun b H3 e3 b1 b2 => ?_⟩
      have hs3 := Evl.ex_l e3 hs2
      refine ⟨_, rfl, _, rfl, _, rfl, p, ns, jj, b, rfl, hs3, hz, j0, (by omega), b1, b2, fun hh i j H4 e4 hh4 hi hj si sj => ?_⟩
      have sb : Sm 301 b := sm_mono (sm_m40 (by omega) b2) (by decide)
      have si1 : Sm 301 i := sm_mono si (by decide)
      have sj1 : Sm 301 j := sm_mono sj (by decide)
      have o1 : Sm 301 1 := sm_mono (sm_lit (a := 1) (by decide)) (by decide)
      -- the others
      refine ⟨_, rfl, _, rfl, hh, _, _, rfl, hh4, fun r hr => ⟨(by show 2 ≤ sizeLine; decide), fun t1 H6 e6 ht1 => ?_⟩⟩
      have e5 : Evl.Ex H4 (upd H4 r (.tup [.int j, .int i])) := ex_new hr
      have hr5 : upd H4 r (.tup [.int j, .int i]) r = some (.tup [.int j, .int i]) := upd_same
      have e46 := e5.trans e6
      refine ⟨_, rfl, _, _, rfl, rfl, _, rfl, (by show 2 ≤ sizeLine; decide), fun t2 H7 e7 ht2 => ?_⟩
      refine ⟨_, rfl, _, rfl, hh, _, _, _, rfl, rfl, SqT.of (e7 _ _ (e46 _ _ hh4)), at0, _, _, rfl, rfl, _, rfl, hh, _, _, _, rfl, rfl, SqT.of (e7 _ _ (e46 _ _ hh4)), at1, _, _, rfl, fun r3 H8 e8 hr3 => ⟨(by show 2 ≤ sizeLine; decide), fun t3 H9 e9 ht3 => ⟨(by show 3 ≤ sizeLine; decide), fun l H10 e10 hl10 _ => ?_⟩⟩⟩
      have e710 := e8.trans (e9.trans e10)
      have e610 := e7.trans e710
      have e410 := e46.trans e610
      have hh10 := e410 _ _ hh4
      have all : ∀ y ∈ [V.ref t1, .ref t2, .ref t3], OtT H10 y := by
        intro y hy
        simp only [List.mem_cons, List.not_mem_nil, or_false] at hy
        rcases hy with rfl | rfl | rfl
        · exact ⟨_, b, _, j, i, rfl, e610 _ _ ht1, e610 _ _ (e6 _ _ hr5), b1, hj, hi, sm_mono sb (by decide), sm_mono sj (by decide), sm_mono si (by decide)⟩
        · exact ⟨_, b + 1, _, i, j, rfl, e710 _ _ ht2, hh10, by omega, hi, hj, sm_mono (sm_add sb o1) (by decide), sm_mono si (by decide), sm_mono sj (by decide)⟩
        · exact ⟨_, b, _, i + 1, j, rfl, e10 _ _ ht3, e10 _ _ (e9 _ _ hr3), b1, by omega, hj, sm_mono sb (by decide), sm_mono (sm_add si1 o1) (by decide), sm_mono sj (by decide)⟩
      refine ⟨_, rfl, _, rfl, _, rfl, b, hh, i, j, l, _, rfl, hh10, b1, hi, hj, sb, si1, sj1, hl10, all, fun H11 e11 => ⟨true, rfl, ifF rfl ?_⟩⟩
      have e4_11 := e410.trans e11
      have hs11 := Evl.ex_l (e4.trans e4_11) hs3
      refine ⟨_, rfl, _, rfl, _, rfl, _, rfl, _, _, rfl, rfl, p, ns, jj + 1, rfl, hs11, (by omega), _, rfl, b, hh, i, j, _, rfl, e4_11 _ _ hh4, b1, hi, hj, sb, si1, sj1, fun H12 e12 => ⟨true, rfl, ifF rfl ?_⟩⟩
      exact ⟨e2.trans (e3.trans (e4.trans (e4_11.trans e12))), _, _, _, _, _, _, rfl⟩
    · rintro σ H2 ⟨e2, v1, v2, v3, v4, v5, v6, rfl⟩
      have s : ∀ x : Int, x.natAbs < 2 ^ 3 → Sm 2800 x := fun x h => sm_mono (sm_lit (a := 3) h) (by decide)
      have n00 : Th.nof 1 0 0 = some 0 := by decide +kernel
      have n21 : Th.nof 1 2 1 = some 1 := by decide +kernel
      have n12 : Th.nof 2 1 2 = none := by decide +kernel
      have p40b : (10 : Int) ^ (40 : Int).toNat = M40 := p40
      refine ⟨_, _, rfl, fun q3 H3 e3 hq3 => ?_⟩
      refine ⟨1, q3, 0, 0, rfl, hq3, (by decide), (by decide), (by decide), s 1 (by decide), s 0 (by decide), s 0 (by decide), fun n x H4 en e4 hx => ?_, fun x H4 en e4 hx => ?_⟩
      rotate_left
      · rw [n00] at en
        cases en
      rw [n00] at en
      cases en
      refine ⟨_, _, rfl, fun q5 H5 e5 hq5 => ?_⟩
      refine ⟨1, q5, 2, 1, rfl, hq5, (by decide), (by decide), (by decide), s 1 (by decide), s 2 (by decide), s 1 (by decide), fun n y H6 en e6 hy => ?_, fun y H6 en e6 hy => ?_⟩
      rotate_left
      · rw [n21] at en
        cases en
      rw [n21] at en
      cases en
      obtain ⟨dx, hx⟩ := hx
      obtain ⟨dy, hy⟩ := hy
      have hx6 := e6 _ _ (e5 _ _ hx)
      refine ⟨_, _, rfl, ?_⟩
      refine ⟨_, rfl, x, _, dx, _, cs.c_Lost, true, rfl, hx6, T.in_Lost, T.k_LL, _, rfl, ifF rfl ⟨_, rfl, x, _, dx, _, _, rfl, hx6, T.cl_Lost, T.no_number, lk1, _, _, rfl, rfl, _, rfl, ifF (nd rfl) ⟨_, rfl, y, _, dy, _, cs.c_Lost, true, rfl, hy, T.in_Lost, T.k_LL, _, rfl, ifF rfl ⟨_, rfl, y, _, dy, _, _, rfl, hy, T.cl_Lost, T.no_number, lk1, _, _, rfl, rfl, _, rfl, ifF (nd rfl) ?_⟩⟩⟩⟩
      refine ⟨_, _, rfl, fun q7 H7 e7 hq7 => ?_⟩
      refine ⟨2, q7, 1, 2, rfl, hq7, (by decide), (by decide), (by decide), s 2 (by decide), s 1 (by decide), s 2 (by decide), fun n z H8 en e8 hz => ?_, fun z H8 en e8 hz => ?_⟩
      · rw [n12] at en
        cases en
      obtain ⟨dz, qz, hz, _⟩ := hz
      refine ⟨z, _, dz, _, cs.c_Won, true, rfl, hz, T.in_Won, T.k_WW, _, rfl, ifT rfl ?_⟩
      have A1 := Th.A_one (b := M40) (by decide)
      have sM : Sm 2800 M40 := sm_mono (sm_m40 (by decide) (by decide)) (by decide)
      have sM1 : Sm 2800 (M40 + 1) := sm_mono (sm_add (sm_m40 (by decide) (Int.le_refl M40)) (sm_mono (sm_lit (a := 1) (by decide)) (by decide))) (by decide)
      have nM : Th.nof M40 1 (M40 + 1) = some 1 := Th.nof_of (by decide) (by decide) (by rw [A1]; decide) (by unfold Th.B; rw [A1]; decide)
      refine ⟨_, _, rfl, rfl, pow_ok (by decide) (by decide), _, _, rfl, rfl, pow_ok (by decide) (by decide), _, _, rfl, rfl, _, _, rfl, fun q9 H9 e9 hq9 => ?_⟩
      rw [p40b] at hq9
      refine ⟨M40, q9, 1, M40 + 1, (by rw [← p40b]; rfl), hq9, (by decide), (by decide), (by decide), sM, s 1 (by decide), sM1, fun n w H10 en e10 hw => ?_, fun w H10 en e10 hw => ?_⟩
      · obtain ⟨dw, hw⟩ := hw
        exact ⟨w, _, dw, _, cs.c_Lost, true, rfl, hw, T.in_Lost, T.k_LL, k _⟩
      · rw [nM] at en
        cases en
end
theorem all_mk {P : Program} {w : World} {K : PySem.W.Frag} {h : Heap} {mg : Str → Option Value} {fa : Addr} (X : K.In h) (G : h.Ns mainGlobals mg) (hfa : mg "law" = some (.ref fa))
    {f_is_whole : Addr} {od_is_whole an_is_whole : Option Addr} {sl_is_whole : Array (Option Value)} {oc_is_whole kV_is_whole dc_is_whole pm_is_whole cd_is_whole ct_is_whole : Value}
    {f__times_root : Addr} {od__times_root an__times_root : Option Addr} {sl__times_root : Array (Option Value)} {oc__times_root kV__times_root dc__times_root pm__times_root cd__times_root ct__times_root : Value}
    {f__is_there : Addr} {od__is_there an__is_there : Option Addr} {sl__is_there : Array (Option Value)} {oc__is_there kV__is_there dc__is_there pm__is_there cd__is_there ct__is_there : Value}
    {f__is_let : Addr} {od__is_let an__is_let : Option Addr} {sl__is_let : Array (Option Value)} {oc__is_let kV__is_let dc__is_let pm__is_let cd__is_let ct__is_let : Value}
    {f_Lost___init__ : Addr} {od_Lost___init__ an_Lost___init__ : Option Addr} {sl_Lost___init__ : Array (Option Value)} {oc_Lost___init__ kV_Lost___init__ dc_Lost___init__ pm_Lost___init__ cd_Lost___init__ ct_Lost___init__ : Value}
    {f_Won___init__ : Addr} {od_Won___init__ an_Won___init__ : Option Addr} {sl_Won___init__ : Array (Option Value)} {oc_Won___init__ kV_Won___init__ dc_Won___init__ pm_Won___init__ cd_Won___init__ ct_Won___init__ : Value}
    {f__law_cell_at : Addr} {od__law_cell_at an__law_cell_at : Option Addr} {sl__law_cell_at : Array (Option Value)} {oc__law_cell_at kV__law_cell_at dc__law_cell_at pm__law_cell_at cd__law_cell_at ct__law_cell_at : Value}
    {f__law_draw : Addr} {od__law_draw an__law_draw : Option Addr} {sl__law_draw : Array (Option Value)} {oc__law_draw kV__law_draw dc__law_draw pm__law_draw cd__law_draw ct__law_draw : Value}
    {f__law_root : Addr} {od__law_root an__law_root : Option Addr} {sl__law_root : Array (Option Value)} {oc__law_root kV__law_root dc__law_root pm__law_root cd__law_root ct__law_root : Value}
    {f__law_may : Addr} {od__law_may an__law_may : Option Addr} {sl__law_may : Array (Option Value)} {oc__law_may kV__law_may dc__law_may pm__law_may cd__law_may ct__law_may : Value}
    {f__law_whole : Addr} {od__law_whole an__law_whole : Option Addr} {sl__law_whole : Array (Option Value)} {oc__law_whole kV__law_whole dc__law_whole pm__law_whole cd__law_whole ct__law_whole : Value}
    {f__law_says : Addr} {od__law_says an__law_says : Option Addr} {sl__law_says : Array (Option Value)} {oc__law_says kV__law_says dc__law_says pm__law_says cd__law_says ct__law_says : Value}
    {f_is_pair : Addr} {od_is_pair an_is_pair : Option Addr} {sl_is_pair : Array (Option Value)} {oc_is_pair kV_is_pair dc_is_pair pm_is_pair cd_is_pair ct_is_pair : Value}
    {f_is_bound : Addr} {od_is_bound an_is_bound : Option Addr} {sl_is_bound : Array (Option Value)} {oc_is_bound kV_is_bound dc_is_bound pm_is_bound cd_is_bound ct_is_bound : Value}
    {f_check_number : Addr} {od_check_number an_check_number : Option Addr} {sl_check_number : Array (Option Value)} {oc_check_number kV_check_number dc_check_number pm_check_number cd_check_number ct_check_number : Value}
    {f__lessers_below : Addr} {od__lessers_below an__lessers_below : Option Addr} {sl__lessers_below : Array (Option Value)} {oc__lessers_below kV__lessers_below dc__lessers_below pm__lessers_below cd__lessers_below ct__lessers_below : Value}
    {f__law_number : Addr} {od__law_number an__law_number : Option Addr} {sl__law_number : Array (Option Value)} {oc__law_number kV__law_number dc__law_number pm__law_number cd__law_number ct__law_number : Value}
    {f__law_pair : Addr} {od__law_pair an__law_pair : Option Addr} {sl__law_pair : Array (Option Value)} {oc__law_pair kV__law_pair dc__law_pair pm__law_pair cd__law_pair ct__law_pair : Value}
    {f__law_is_pair : Addr} {od__law_is_pair an__law_is_pair : Option Addr} {sl__law_is_pair : Array (Option Value)} {oc__law_is_pair kV__law_is_pair dc__law_is_pair pm__law_is_pair cd__law_is_pair ct__law_is_pair : Value}
    {f_are_heaps : Addr} {od_are_heaps an_are_heaps : Option Addr} {sl_are_heaps : Array (Option Value)} {oc_are_heaps kV_are_heaps dc_are_heaps pm_are_heaps cd_are_heaps ct_are_heaps : Value}
    {f_check_bound : Addr} {od_check_bound an_check_bound : Option Addr} {sl_check_bound : Array (Option Value)} {oc_check_bound kV_check_bound dc_check_bound pm_check_bound cd_check_bound ct_check_bound : Value}
    {f__law_lost : Addr} {od__law_lost an__law_lost : Option Addr} {sl__law_lost : Array (Option Value)} {oc__law_lost kV__law_lost dc__law_lost pm__law_lost cd__law_lost ct__law_lost : Value}
    {f__law_bound : Addr} {od__law_bound an__law_bound : Option Addr} {sl__law_bound : Array (Option Value)} {oc__law_bound kV__law_bound dc__law_bound pm__law_bound cd__law_bound ct__law_bound : Value}
    {f__law_heaps : Addr} {od__law_heaps an__law_heaps : Option Addr} {sl__law_heaps : Array (Option Value)} {oc__law_heaps kV__law_heaps dc__law_heaps pm__law_heaps cd__law_heaps ct__law_heaps : Value}
    {f_check_heaps : Addr} {od_check_heaps an_check_heaps : Option Addr} {sl_check_heaps : Array (Option Value)} {oc_check_heaps kV_check_heaps dc_check_heaps pm_check_heaps cd_check_heaps ct_check_heaps : Value}
    {f_pair_by : Addr} {od_pair_by an_pair_by : Option Addr} {sl_pair_by : Array (Option Value)} {oc_pair_by kV_pair_by dc_pair_by pm_pair_by cd_pair_by ct_pair_by : Value}
    {f__law_due : Addr} {od__law_due an__law_due : Option Addr} {sl__law_due : Array (Option Value)} {oc__law_due kV__law_due dc__law_due pm__law_due cd__law_due ct__law_due : Value}
    {f_pair_with : Addr} {od_pair_with an_pair_with : Option Addr} {sl_pair_with : Array (Option Value)} {oc_pair_with kV_pair_with dc_pair_with pm_pair_with cd_pair_with ct_pair_with : Value}
    {f_number_of : Addr} {od_number_of an_number_of : Option Addr} {sl_number_of : Array (Option Value)} {oc_number_of kV_number_of dc_number_of pm_number_of cd_number_of ct_number_of : Value}
    {f_can : Addr} {od_can an_can : Option Addr} {sl_can : Array (Option Value)} {oc_can kV_can dc_can pm_can cd_can ct_can : Value}
    {f_left : Addr} {od_left an_left : Option Addr} {sl_left : Array (Option Value)} {oc_left kV_left dc_left pm_left cd_left ct_left : Value}
    {f_Lost_shows : Addr} {od_Lost_shows an_Lost_shows : Option Addr} {sl_Lost_shows : Array (Option Value)} {oc_Lost_shows kV_Lost_shows dc_Lost_shows pm_Lost_shows cd_Lost_shows ct_Lost_shows : Value}
    {f__aim : Addr} {od__aim an__aim : Option Addr} {sl__aim : Array (Option Value)} {oc__aim kV__aim dc__aim pm__aim cd__aim ct__aim : Value}
    {f_Won_shows : Addr} {od_Won_shows an_Won_shows : Option Addr} {sl_Won_shows : Array (Option Value)} {oc_Won_shows kV_Won_shows dc_Won_shows pm_Won_shows cd_Won_shows ct_Won_shows : Value}
    {f__winning : Addr} {od__winning an__winning : Option Addr} {sl__winning : Array (Option Value)} {oc__winning kV__winning dc__winning pm__winning cd__winning ct__winning : Value}
    {f_told : Addr} {od_told an_told : Option Addr} {sl_told : Array (Option Value)} {oc_told kV_told dc_told pm_told cd_told ct_told : Value}
    {f__law_refused : Addr} {od__law_refused an__law_refused : Option Addr} {sl__law_refused : Array (Option Value)} {oc__law_refused kV__law_refused dc__law_refused pm__law_refused cd__law_refused ct__law_refused : Value}
    {f__law_right : Addr} {od__law_right an__law_right : Option Addr} {sl__law_right : Array (Option Value)} {oc__law_right kV__law_right dc__law_right pm__law_right cd__law_right ct__law_right : Value}
    {f__law_takings_right : Addr} {od__law_takings_right an__law_takings_right : Option Addr} {sl__law_takings_right : Array (Option Value)} {oc__law_takings_right kV__law_takings_right dc__law_takings_right pm__law_takings_right cd__law_takings_right ct__law_takings_right : Value}
    {f_law : Addr} {od_law an_law : Option Addr} {sl_law : Array (Option Value)} {oc_law kV_law dc_law pm_law cd_law ct_law : Value}
    {C_Lost : Addr}
    {C_Won : Addr}
    {C_Answer : Addr}
    {C_HeapError : Addr}
    {C_BadTaking : Addr}
    (g_Lost : PySem.W.nsIn K mainGlobals "Lost" = some (some (.ref C_Lost)))
    (g_Won : PySem.W.nsIn K mainGlobals "Won" = some (some (.ref C_Won)))
    (g_Answer : PySem.W.nsIn K mainGlobals "Answer" = some (some (.ref C_Answer)))
    (g_HeapError : PySem.W.nsIn K mainGlobals "HeapError" = some (some (.ref C_HeapError)))
    (g_BadTaking : PySem.W.nsIn K mainGlobals "BadTaking" = some (some (.ref C_BadTaking)))
    (a_is_whole : PySem.W.nsIn K mainGlobals "is_whole" = some (some (.ref f_is_whole)))
    (l_is_whole : K.lookup f_is_whole = some ⟨oc_is_whole, od_is_whole, .func (PySem.W.fnOf "is_whole" "is_whole" (L2.defArgs s_is_whole) (L2.defBody s_is_whole) (L2.defScope s_is_whole) .none kV_is_whole dc_is_whole pm_is_whole an_is_whole cd_is_whole ct_is_whole), sl_is_whole⟩)
    (c_is_whole : PySem.W.codeIn K cd_is_whole "is_whole" = true)
    (k_is_whole : PySem.W.keepIn K (.ref f_is_whole) = true)
    (a__times_root : PySem.W.nsIn K mainGlobals "_times_root" = some (some (.ref f__times_root)))
    (l__times_root : K.lookup f__times_root = some ⟨oc__times_root, od__times_root, .func (PySem.W.fnOf "_times_root" "_times_root" (L2.defArgs s__times_root) (L2.defBody s__times_root) (L2.defScope s__times_root) .none kV__times_root dc__times_root pm__times_root an__times_root cd__times_root ct__times_root), sl__times_root⟩)
    (c__times_root : PySem.W.codeIn K cd__times_root "_times_root" = true)
    (k__times_root : PySem.W.keepIn K (.ref f__times_root) = true)
    (a__is_there : PySem.W.nsIn K mainGlobals "_is_there" = some (some (.ref f__is_there)))
    (l__is_there : K.lookup f__is_there = some ⟨oc__is_there, od__is_there, .func (PySem.W.fnOf "_is_there" "_is_there" (L2.defArgs s__is_there) (L2.defBody s__is_there) (L2.defScope s__is_there) .none kV__is_there dc__is_there pm__is_there an__is_there cd__is_there ct__is_there), sl__is_there⟩)
    (c__is_there : PySem.W.codeIn K cd__is_there "_is_there" = true)
    (k__is_there : PySem.W.keepIn K (.ref f__is_there) = true)
    (a__is_let : PySem.W.nsIn K mainGlobals "_is_let" = some (some (.ref f__is_let)))
    (l__is_let : K.lookup f__is_let = some ⟨oc__is_let, od__is_let, .func (PySem.W.fnOf "_is_let" "_is_let" (L2.defArgs s__is_let) (L2.defBody s__is_let) (L2.defScope s__is_let) .none kV__is_let dc__is_let pm__is_let an__is_let cd__is_let ct__is_let), sl__is_let⟩)
    (c__is_let : PySem.W.codeIn K cd__is_let "_is_let" = true)
    (k__is_let : PySem.W.keepIn K (.ref f__is_let) = true)
    (a_Lost___init__ : PySem.W.findIn K (.ref C_Lost) "__init__" = some (some (.ref f_Lost___init__)))
    (i_Lost___init__ : PySem.W.isFn K (.ref f_Lost___init__) = true)
    (l_Lost___init__ : K.lookup f_Lost___init__ = some ⟨oc_Lost___init__, od_Lost___init__, .func (PySem.W.fnOf "__init__" "Lost.__init__" (L2.defArgs s_Lost___init__) (L2.defBody s_Lost___init__) (L2.defScope s_Lost___init__) .none kV_Lost___init__ dc_Lost___init__ pm_Lost___init__ an_Lost___init__ cd_Lost___init__ ct_Lost___init__), sl_Lost___init__⟩)
    (c_Lost___init__ : PySem.W.codeIn K cd_Lost___init__ "Lost.__init__" = true)
    (k_Lost___init__ : PySem.W.keepIn K (.ref f_Lost___init__) = true)
    (a_Won___init__ : PySem.W.findIn K (.ref C_Won) "__init__" = some (some (.ref f_Won___init__)))
    (i_Won___init__ : PySem.W.isFn K (.ref f_Won___init__) = true)
    (l_Won___init__ : K.lookup f_Won___init__ = some ⟨oc_Won___init__, od_Won___init__, .func (PySem.W.fnOf "__init__" "Won.__init__" (L2.defArgs s_Won___init__) (L2.defBody s_Won___init__) (L2.defScope s_Won___init__) .none kV_Won___init__ dc_Won___init__ pm_Won___init__ an_Won___init__ cd_Won___init__ ct_Won___init__), sl_Won___init__⟩)
    (c_Won___init__ : PySem.W.codeIn K cd_Won___init__ "Won.__init__" = true)
    (k_Won___init__ : PySem.W.keepIn K (.ref f_Won___init__) = true)
    (a__law_cell_at : PySem.W.nsIn K mainGlobals "_law_cell_at" = some (some (.ref f__law_cell_at)))
    (l__law_cell_at : K.lookup f__law_cell_at = some ⟨oc__law_cell_at, od__law_cell_at, .func (PySem.W.fnOf "_law_cell_at" "_law_cell_at" (L2.defArgs s__law_cell_at) (L2.defBody s__law_cell_at) (L2.defScope s__law_cell_at) .none kV__law_cell_at dc__law_cell_at pm__law_cell_at an__law_cell_at cd__law_cell_at ct__law_cell_at), sl__law_cell_at⟩)
    (c__law_cell_at : PySem.W.codeIn K cd__law_cell_at "_law_cell_at" = true)
    (k__law_cell_at : PySem.W.keepIn K (.ref f__law_cell_at) = true)
    (a__law_draw : PySem.W.nsIn K mainGlobals "_law_draw" = some (some (.ref f__law_draw)))
    (l__law_draw : K.lookup f__law_draw = some ⟨oc__law_draw, od__law_draw, .func (PySem.W.fnOf "_law_draw" "_law_draw" (L2.defArgs s__law_draw) (L2.defBody s__law_draw) (L2.defScope s__law_draw) .none kV__law_draw dc__law_draw pm__law_draw an__law_draw cd__law_draw ct__law_draw), sl__law_draw⟩)
    (c__law_draw : PySem.W.codeIn K cd__law_draw "_law_draw" = true)
    (k__law_draw : PySem.W.keepIn K (.ref f__law_draw) = true)
    (a__law_root : PySem.W.nsIn K mainGlobals "_law_root" = some (some (.ref f__law_root)))
    (l__law_root : K.lookup f__law_root = some ⟨oc__law_root, od__law_root, .func (PySem.W.fnOf "_law_root" "_law_root" (L2.defArgs s__law_root) (L2.defBody s__law_root) (L2.defScope s__law_root) .none kV__law_root dc__law_root pm__law_root an__law_root cd__law_root ct__law_root), sl__law_root⟩)
    (c__law_root : PySem.W.codeIn K cd__law_root "_law_root" = true)
    (k__law_root : PySem.W.keepIn K (.ref f__law_root) = true)
    (a__law_may : PySem.W.nsIn K mainGlobals "_law_may" = some (some (.ref f__law_may)))
    (l__law_may : K.lookup f__law_may = some ⟨oc__law_may, od__law_may, .func (PySem.W.fnOf "_law_may" "_law_may" (L2.defArgs s__law_may) (L2.defBody s__law_may) (L2.defScope s__law_may) .none kV__law_may dc__law_may pm__law_may an__law_may cd__law_may ct__law_may), sl__law_may⟩)
    (c__law_may : PySem.W.codeIn K cd__law_may "_law_may" = true)
    (k__law_may : PySem.W.keepIn K (.ref f__law_may) = true)
    (a__law_whole : PySem.W.nsIn K mainGlobals "_law_whole" = some (some (.ref f__law_whole)))
    (l__law_whole : K.lookup f__law_whole = some ⟨oc__law_whole, od__law_whole, .func (PySem.W.fnOf "_law_whole" "_law_whole" (L2.defArgs s__law_whole) (L2.defBody s__law_whole) (L2.defScope s__law_whole) .none kV__law_whole dc__law_whole pm__law_whole an__law_whole cd__law_whole ct__law_whole), sl__law_whole⟩)
    (c__law_whole : PySem.W.codeIn K cd__law_whole "_law_whole" = true)
    (k__law_whole : PySem.W.keepIn K (.ref f__law_whole) = true)
    (a__law_says : PySem.W.nsIn K mainGlobals "_law_says" = some (some (.ref f__law_says)))
    (l__law_says : K.lookup f__law_says = some ⟨oc__law_says, od__law_says, .func (PySem.W.fnOf "_law_says" "_law_says" (L2.defArgs s__law_says) (L2.defBody s__law_says) (L2.defScope s__law_says) .none kV__law_says dc__law_says pm__law_says an__law_says cd__law_says ct__law_says), sl__law_says⟩)
    (c__law_says : PySem.W.codeIn K cd__law_says "_law_says" = true)
    (k__law_says : PySem.W.keepIn K (.ref f__law_says) = true)
    (a_is_pair : PySem.W.nsIn K mainGlobals "is_pair" = some (some (.ref f_is_pair)))
    (l_is_pair : K.lookup f_is_pair = some ⟨oc_is_pair, od_is_pair, .func (PySem.W.fnOf "is_pair" "is_pair" (L2.defArgs s_is_pair) (L2.defBody s_is_pair) (L2.defScope s_is_pair) .none kV_is_pair dc_is_pair pm_is_pair an_is_pair cd_is_pair ct_is_pair), sl_is_pair⟩)
    (c_is_pair : PySem.W.codeIn K cd_is_pair "is_pair" = true)
    (k_is_pair : PySem.W.keepIn K (.ref f_is_pair) = true)
    (a_is_bound : PySem.W.nsIn K mainGlobals "is_bound" = some (some (.ref f_is_bound)))
    (l_is_bound : K.lookup f_is_bound = some ⟨oc_is_bound, od_is_bound, .func (PySem.W.fnOf "is_bound" "is_bound" (L2.defArgs s_is_bound) (L2.defBody s_is_bound) (L2.defScope s_is_bound) .none kV_is_bound dc_is_bound pm_is_bound an_is_bound cd_is_bound ct_is_bound), sl_is_bound⟩)
    (c_is_bound : PySem.W.codeIn K cd_is_bound "is_bound" = true)
    (k_is_bound : PySem.W.keepIn K (.ref f_is_bound) = true)
    (a_check_number : PySem.W.nsIn K mainGlobals "check_number" = some (some (.ref f_check_number)))
    (l_check_number : K.lookup f_check_number = some ⟨oc_check_number, od_check_number, .func (PySem.W.fnOf "check_number" "check_number" (L2.defArgs s_check_number) (L2.defBody s_check_number) (L2.defScope s_check_number) .none kV_check_number dc_check_number pm_check_number an_check_number cd_check_number ct_check_number), sl_check_number⟩)
    (c_check_number : PySem.W.codeIn K cd_check_number "check_number" = true)
    (k_check_number : PySem.W.keepIn K (.ref f_check_number) = true)
    (a__lessers_below : PySem.W.nsIn K mainGlobals "_lessers_below" = some (some (.ref f__lessers_below)))
    (l__lessers_below : K.lookup f__lessers_below = some ⟨oc__lessers_below, od__lessers_below, .func (PySem.W.fnOf "_lessers_below" "_lessers_below" (L2.defArgs s__lessers_below) (L2.defBody s__lessers_below) (L2.defScope s__lessers_below) .none kV__lessers_below dc__lessers_below pm__lessers_below an__lessers_below cd__lessers_below ct__lessers_below), sl__lessers_below⟩)
    (c__lessers_below : PySem.W.codeIn K cd__lessers_below "_lessers_below" = true)
    (k__lessers_below : PySem.W.keepIn K (.ref f__lessers_below) = true)
    (a__law_number : PySem.W.nsIn K mainGlobals "_law_number" = some (some (.ref f__law_number)))
    (l__law_number : K.lookup f__law_number = some ⟨oc__law_number, od__law_number, .func (PySem.W.fnOf "_law_number" "_law_number" (L2.defArgs s__law_number) (L2.defBody s__law_number) (L2.defScope s__law_number) .none kV__law_number dc__law_number pm__law_number an__law_number cd__law_number ct__law_number), sl__law_number⟩)
    (c__law_number : PySem.W.codeIn K cd__law_number "_law_number" = true)
    (k__law_number : PySem.W.keepIn K (.ref f__law_number) = true)
    (a__law_pair : PySem.W.nsIn K mainGlobals "_law_pair" = some (some (.ref f__law_pair)))
    (l__law_pair : K.lookup f__law_pair = some ⟨oc__law_pair, od__law_pair, .func (PySem.W.fnOf "_law_pair" "_law_pair" (L2.defArgs s__law_pair) (L2.defBody s__law_pair) (L2.defScope s__law_pair) .none kV__law_pair dc__law_pair pm__law_pair an__law_pair cd__law_pair ct__law_pair), sl__law_pair⟩)
    (c__law_pair : PySem.W.codeIn K cd__law_pair "_law_pair" = true)
    (k__law_pair : PySem.W.keepIn K (.ref f__law_pair) = true)
    (a__law_is_pair : PySem.W.nsIn K mainGlobals "_law_is_pair" = some (some (.ref f__law_is_pair)))
    (l__law_is_pair : K.lookup f__law_is_pair = some ⟨oc__law_is_pair, od__law_is_pair, .func (PySem.W.fnOf "_law_is_pair" "_law_is_pair" (L2.defArgs s__law_is_pair) (L2.defBody s__law_is_pair) (L2.defScope s__law_is_pair) .none kV__law_is_pair dc__law_is_pair pm__law_is_pair an__law_is_pair cd__law_is_pair ct__law_is_pair), sl__law_is_pair⟩)
    (c__law_is_pair : PySem.W.codeIn K cd__law_is_pair "_law_is_pair" = true)
    (k__law_is_pair : PySem.W.keepIn K (.ref f__law_is_pair) = true)
    (a_are_heaps : PySem.W.nsIn K mainGlobals "are_heaps" = some (some (.ref f_are_heaps)))
    (l_are_heaps : K.lookup f_are_heaps = some ⟨oc_are_heaps, od_are_heaps, .func (PySem.W.fnOf "are_heaps" "are_heaps" (L2.defArgs s_are_heaps) (L2.defBody s_are_heaps) (L2.defScope s_are_heaps) .none kV_are_heaps dc_are_heaps pm_are_heaps an_are_heaps cd_are_heaps ct_are_heaps), sl_are_heaps⟩)
    (c_are_heaps : PySem.W.codeIn K cd_are_heaps "are_heaps" = true)
    (k_are_heaps : PySem.W.keepIn K (.ref f_are_heaps) = true)
    (a_check_bound : PySem.W.nsIn K mainGlobals "check_bound" = some (some (.ref f_check_bound)))
    (l_check_bound : K.lookup f_check_bound = some ⟨oc_check_bound, od_check_bound, .func (PySem.W.fnOf "check_bound" "check_bound" (L2.defArgs s_check_bound) (L2.defBody s_check_bound) (L2.defScope s_check_bound) .none kV_check_bound dc_check_bound pm_check_bound an_check_bound cd_check_bound ct_check_bound), sl_check_bound⟩)
    (c_check_bound : PySem.W.codeIn K cd_check_bound "check_bound" = true)
    (k_check_bound : PySem.W.keepIn K (.ref f_check_bound) = true)
    (a__law_lost : PySem.W.nsIn K mainGlobals "_law_lost" = some (some (.ref f__law_lost)))
    (l__law_lost : K.lookup f__law_lost = some ⟨oc__law_lost, od__law_lost, .func (PySem.W.fnOf "_law_lost" "_law_lost" (L2.defArgs s__law_lost) (L2.defBody s__law_lost) (L2.defScope s__law_lost) .none kV__law_lost dc__law_lost pm__law_lost an__law_lost cd__law_lost ct__law_lost), sl__law_lost⟩)
    (c__law_lost : PySem.W.codeIn K cd__law_lost "_law_lost" = true)
    (k__law_lost : PySem.W.keepIn K (.ref f__law_lost) = true)
    (a__law_bound : PySem.W.nsIn K mainGlobals "_law_bound" = some (some (.ref f__law_bound)))
    (l__law_bound : K.lookup f__law_bound = some ⟨oc__law_bound, od__law_bound, .func (PySem.W.fnOf "_law_bound" "_law_bound" (L2.defArgs s__law_bound) (L2.defBody s__law_bound) (L2.defScope s__law_bound) .none kV__law_bound dc__law_bound pm__law_bound an__law_bound cd__law_bound ct__law_bound), sl__law_bound⟩)
    (c__law_bound : PySem.W.codeIn K cd__law_bound "_law_bound" = true)
    (k__law_bound : PySem.W.keepIn K (.ref f__law_bound) = true)
    (a__law_heaps : PySem.W.nsIn K mainGlobals "_law_heaps" = some (some (.ref f__law_heaps)))
    (l__law_heaps : K.lookup f__law_heaps = some ⟨oc__law_heaps, od__law_heaps, .func (PySem.W.fnOf "_law_heaps" "_law_heaps" (L2.defArgs s__law_heaps) (L2.defBody s__law_heaps) (L2.defScope s__law_heaps) .none kV__law_heaps dc__law_heaps pm__law_heaps an__law_heaps cd__law_heaps ct__law_heaps), sl__law_heaps⟩)
    (c__law_heaps : PySem.W.codeIn K cd__law_heaps "_law_heaps" = true)
    (k__law_heaps : PySem.W.keepIn K (.ref f__law_heaps) = true)
    (a_check_heaps : PySem.W.nsIn K mainGlobals "check_heaps" = some (some (.ref f_check_heaps)))
    (l_check_heaps : K.lookup f_check_heaps = some ⟨oc_check_heaps, od_check_heaps, .func (PySem.W.fnOf "check_heaps" "check_heaps" (L2.defArgs s_check_heaps) (L2.defBody s_check_heaps) (L2.defScope s_check_heaps) .none kV_check_heaps dc_check_heaps pm_check_heaps an_check_heaps cd_check_heaps ct_check_heaps), sl_check_heaps⟩)
    (c_check_heaps : PySem.W.codeIn K cd_check_heaps "check_heaps" = true)
    (k_check_heaps : PySem.W.keepIn K (.ref f_check_heaps) = true)
    (a_pair_by : PySem.W.nsIn K mainGlobals "pair_by" = some (some (.ref f_pair_by)))
    (l_pair_by : K.lookup f_pair_by = some ⟨oc_pair_by, od_pair_by, .func (PySem.W.fnOf "pair_by" "pair_by" (L2.defArgs s_pair_by) (L2.defBody s_pair_by) (L2.defScope s_pair_by) .none kV_pair_by dc_pair_by pm_pair_by an_pair_by cd_pair_by ct_pair_by), sl_pair_by⟩)
    (c_pair_by : PySem.W.codeIn K cd_pair_by "pair_by" = true)
    (k_pair_by : PySem.W.keepIn K (.ref f_pair_by) = true)
    (a__law_due : PySem.W.nsIn K mainGlobals "_law_due" = some (some (.ref f__law_due)))
    (l__law_due : K.lookup f__law_due = some ⟨oc__law_due, od__law_due, .func (PySem.W.fnOf "_law_due" "_law_due" (L2.defArgs s__law_due) (L2.defBody s__law_due) (L2.defScope s__law_due) .none kV__law_due dc__law_due pm__law_due an__law_due cd__law_due ct__law_due), sl__law_due⟩)
    (c__law_due : PySem.W.codeIn K cd__law_due "_law_due" = true)
    (k__law_due : PySem.W.keepIn K (.ref f__law_due) = true)
    (a_pair_with : PySem.W.nsIn K mainGlobals "pair_with" = some (some (.ref f_pair_with)))
    (l_pair_with : K.lookup f_pair_with = some ⟨oc_pair_with, od_pair_with, .func (PySem.W.fnOf "pair_with" "pair_with" (L2.defArgs s_pair_with) (L2.defBody s_pair_with) (L2.defScope s_pair_with) .none kV_pair_with dc_pair_with pm_pair_with an_pair_with cd_pair_with ct_pair_with), sl_pair_with⟩)
    (c_pair_with : PySem.W.codeIn K cd_pair_with "pair_with" = true)
    (k_pair_with : PySem.W.keepIn K (.ref f_pair_with) = true)
    (a_number_of : PySem.W.nsIn K mainGlobals "number_of" = some (some (.ref f_number_of)))
    (l_number_of : K.lookup f_number_of = some ⟨oc_number_of, od_number_of, .func (PySem.W.fnOf "number_of" "number_of" (L2.defArgs s_number_of) (L2.defBody s_number_of) (L2.defScope s_number_of) .none kV_number_of dc_number_of pm_number_of an_number_of cd_number_of ct_number_of), sl_number_of⟩)
    (c_number_of : PySem.W.codeIn K cd_number_of "number_of" = true)
    (k_number_of : PySem.W.keepIn K (.ref f_number_of) = true)
    (a_can : PySem.W.nsIn K mainGlobals "can" = some (some (.ref f_can)))
    (l_can : K.lookup f_can = some ⟨oc_can, od_can, .func (PySem.W.fnOf "can" "can" (L2.defArgs s_can) (L2.defBody s_can) (L2.defScope s_can) .none kV_can dc_can pm_can an_can cd_can ct_can), sl_can⟩)
    (c_can : PySem.W.codeIn K cd_can "can" = true)
    (k_can : PySem.W.keepIn K (.ref f_can) = true)
    (a_left : PySem.W.nsIn K mainGlobals "left" = some (some (.ref f_left)))
    (l_left : K.lookup f_left = some ⟨oc_left, od_left, .func (PySem.W.fnOf "left" "left" (L2.defArgs s_left) (L2.defBody s_left) (L2.defScope s_left) .none kV_left dc_left pm_left an_left cd_left ct_left), sl_left⟩)
    (c_left : PySem.W.codeIn K cd_left "left" = true)
    (k_left : PySem.W.keepIn K (.ref f_left) = true)
    (a_Lost_shows : PySem.W.findIn K (.ref C_Lost) "shows" = some (some (.ref f_Lost_shows)))
    (i_Lost_shows : PySem.W.isFn K (.ref f_Lost_shows) = true)
    (l_Lost_shows : K.lookup f_Lost_shows = some ⟨oc_Lost_shows, od_Lost_shows, .func (PySem.W.fnOf "shows" "Lost.shows" (L2.defArgs s_Lost_shows) (L2.defBody s_Lost_shows) (L2.defScope s_Lost_shows) .none kV_Lost_shows dc_Lost_shows pm_Lost_shows an_Lost_shows cd_Lost_shows ct_Lost_shows), sl_Lost_shows⟩)
    (c_Lost_shows : PySem.W.codeIn K cd_Lost_shows "Lost.shows" = true)
    (k_Lost_shows : PySem.W.keepIn K (.ref f_Lost_shows) = true)
    (a__aim : PySem.W.nsIn K mainGlobals "_aim" = some (some (.ref f__aim)))
    (l__aim : K.lookup f__aim = some ⟨oc__aim, od__aim, .func (PySem.W.fnOf "_aim" "_aim" (L2.defArgs s__aim) (L2.defBody s__aim) (L2.defScope s__aim) .none kV__aim dc__aim pm__aim an__aim cd__aim ct__aim), sl__aim⟩)
    (c__aim : PySem.W.codeIn K cd__aim "_aim" = true)
    (k__aim : PySem.W.keepIn K (.ref f__aim) = true)
    (a_Won_shows : PySem.W.findIn K (.ref C_Won) "shows" = some (some (.ref f_Won_shows)))
    (i_Won_shows : PySem.W.isFn K (.ref f_Won_shows) = true)
    (l_Won_shows : K.lookup f_Won_shows = some ⟨oc_Won_shows, od_Won_shows, .func (PySem.W.fnOf "shows" "Won.shows" (L2.defArgs s_Won_shows) (L2.defBody s_Won_shows) (L2.defScope s_Won_shows) .none kV_Won_shows dc_Won_shows pm_Won_shows an_Won_shows cd_Won_shows ct_Won_shows), sl_Won_shows⟩)
    (c_Won_shows : PySem.W.codeIn K cd_Won_shows "Won.shows" = true)
    (k_Won_shows : PySem.W.keepIn K (.ref f_Won_shows) = true)
    (a__winning : PySem.W.nsIn K mainGlobals "_winning" = some (some (.ref f__winning)))
    (l__winning : K.lookup f__winning = some ⟨oc__winning, od__winning, .func (PySem.W.fnOf "_winning" "_winning" (L2.defArgs s__winning) (L2.defBody s__winning) (L2.defScope s__winning) .none kV__winning dc__winning pm__winning an__winning cd__winning ct__winning), sl__winning⟩)
    (c__winning : PySem.W.codeIn K cd__winning "_winning" = true)
    (k__winning : PySem.W.keepIn K (.ref f__winning) = true)
    (a_told : PySem.W.nsIn K mainGlobals "told" = some (some (.ref f_told)))
    (l_told : K.lookup f_told = some ⟨oc_told, od_told, .func (PySem.W.fnOf "told" "told" (L2.defArgs s_told) (L2.defBody s_told) (L2.defScope s_told) .none kV_told dc_told pm_told an_told cd_told ct_told), sl_told⟩)
    (c_told : PySem.W.codeIn K cd_told "told" = true)
    (k_told : PySem.W.keepIn K (.ref f_told) = true)
    (a__law_refused : PySem.W.nsIn K mainGlobals "_law_refused" = some (some (.ref f__law_refused)))
    (l__law_refused : K.lookup f__law_refused = some ⟨oc__law_refused, od__law_refused, .func (PySem.W.fnOf "_law_refused" "_law_refused" (L2.defArgs s__law_refused) (L2.defBody s__law_refused) (L2.defScope s__law_refused) .none kV__law_refused dc__law_refused pm__law_refused an__law_refused cd__law_refused ct__law_refused), sl__law_refused⟩)
    (c__law_refused : PySem.W.codeIn K cd__law_refused "_law_refused" = true)
    (k__law_refused : PySem.W.keepIn K (.ref f__law_refused) = true)
    (a__law_right : PySem.W.nsIn K mainGlobals "_law_right" = some (some (.ref f__law_right)))
    (l__law_right : K.lookup f__law_right = some ⟨oc__law_right, od__law_right, .func (PySem.W.fnOf "_law_right" "_law_right" (L2.defArgs s__law_right) (L2.defBody s__law_right) (L2.defScope s__law_right) .none kV__law_right dc__law_right pm__law_right an__law_right cd__law_right ct__law_right), sl__law_right⟩)
    (c__law_right : PySem.W.codeIn K cd__law_right "_law_right" = true)
    (k__law_right : PySem.W.keepIn K (.ref f__law_right) = true)
    (a__law_takings_right : PySem.W.nsIn K mainGlobals "_law_takings_right" = some (some (.ref f__law_takings_right)))
    (l__law_takings_right : K.lookup f__law_takings_right = some ⟨oc__law_takings_right, od__law_takings_right, .func (PySem.W.fnOf "_law_takings_right" "_law_takings_right" (L2.defArgs s__law_takings_right) (L2.defBody s__law_takings_right) (L2.defScope s__law_takings_right) .none kV__law_takings_right dc__law_takings_right pm__law_takings_right an__law_takings_right cd__law_takings_right ct__law_takings_right), sl__law_takings_right⟩)
    (c__law_takings_right : PySem.W.codeIn K cd__law_takings_right "_law_takings_right" = true)
    (k__law_takings_right : PySem.W.keepIn K (.ref f__law_takings_right) = true)
    (a_law : PySem.W.nsIn K mainGlobals "law" = some (some (.ref f_law)))
    (l_law : K.lookup f_law = some ⟨oc_law, od_law, .func (PySem.W.fnOf "law" "law" (L2.defArgs s_law) (L2.defBody s_law) (L2.defScope s_law) .none kV_law dc_law pm_law an_law cd_law ct_law), sl_law⟩)
    (c_law : PySem.W.codeIn K cd_law "law" = true)
    (k_law : PySem.W.keepIn K (.ref f_law) = true)
    (z_abs : PySem.W.nsIn K mainGlobals "abs" = some none)
    (z_bool : PySem.W.nsIn K mainGlobals "bool" = some none)
    (z_int : PySem.W.nsIn K mainGlobals "int" = some none)
    (z_isinstance : PySem.W.nsIn K mainGlobals "isinstance" = some none)
    (z_isqrt : PySem.W.nsIn K mainGlobals "isqrt" = some (some (.builtin "math.isqrt")))
    (z_len : PySem.W.nsIn K mainGlobals "len" = some none)
    (z_max : PySem.W.nsIn K mainGlobals "max" = some none)
    (z_min : PySem.W.nsIn K mainGlobals "min" = some none)
    (z_range : PySem.W.nsIn K mainGlobals "range" = some none)
    (z_tuple : PySem.W.nsIn K mainGlobals "tuple" = some none)
    (pg_Lost : PySem.W.plainGet K C_Lost Str.empty = true)
    (hd_Lost : PySem.W.hasDictIn K C_Lost = true)
    (po_Lost : PySem.W.plainOver K C_Lost = true)
    (sa_Lost : PySem.W.findIn K (.ref C_Lost) "__setattr__" = some (some (.builtin "object.__setattr__")))
    (m_Lost : PySem.W.makesIn K C_Lost = true)
    (kc_Lost : PySem.W.keepIn K (.ref C_Lost) = true)
    (nf_Lost : PySem.W.findIn K (.ref C_Lost) "number" = some none)
    (cc_Lost : PySem.W.findIn K (.ref C_Lost) "__class__" = some (some (.builtin "object.__class__")))
    (mo_Lost : PySem.W.mroIn K C_Lost (.type "object") = some true)
    (pg_Won : PySem.W.plainGet K C_Won Str.empty = true)
    (hd_Won : PySem.W.hasDictIn K C_Won = true)
    (po_Won : PySem.W.plainOver K C_Won = true)
    (sa_Won : PySem.W.findIn K (.ref C_Won) "__setattr__" = some (some (.builtin "object.__setattr__")))
    (m_Won : PySem.W.makesIn K C_Won = true)
    (kc_Won : PySem.W.keepIn K (.ref C_Won) = true)
    (nf_Won : PySem.W.findIn K (.ref C_Won) "taking" = some none)
    (cc_Won : PySem.W.findIn K (.ref C_Won) "__class__" = some (some (.builtin "object.__class__")))
    (mo_Won : PySem.W.mroIn K C_Won (.type "object") = some true)
    (xg : PySem.W.specialIn K (.builtin "object.__class__") "__get__" = some (some (.builtin "getset_descriptor.__get__")))
    (xt : PySem.W.takesIn K (.builtin "object.__class__") = some true)
    (k_LL : PySem.W.kitOne K (.ref C_Lost) (.ref C_Lost) = some true)
    (k_LW : PySem.W.kitOne K (.ref C_Lost) (.ref C_Won) = some false)
    (k_LA : PySem.W.kitOne K (.ref C_Lost) (.ref C_Answer) = some true)
    (k_WL : PySem.W.kitOne K (.ref C_Won) (.ref C_Lost) = some false)
    (k_WW : PySem.W.kitOne K (.ref C_Won) (.ref C_Won) = some true)
    (k_WA : PySem.W.kitOne K (.ref C_Won) (.ref C_Answer) = some true)
    (x_BT : PySem.W.excIn K C_BadTaking [.type "ValueError", .type "Exception", .type "BaseException", .type "object"] "ValueError.__new__" = true)
    (kp_BT : PySem.W.keepIn K (.ref C_BadTaking) = true)
    (b_BT : PySem.W.subIn K (.ref C_BadTaking) (.type "BaseException") = some true)
    (t_BT : PySem.W.typeIn K (.ref C_BadTaking) = some (.type "type"))
    (b_HE : PySem.W.subIn K (.ref C_HeapError) (.type "BaseException") = some true)
    (d_HE : PySem.W.hasDictIn K C_HeapError = true)
    (t_HE : PySem.W.typeIn K (.ref C_HeapError) = some (.type "type"))
    (s_BH : PySem.W.subIn K (.ref C_BadTaking) (.ref C_HeapError) = some true)
    (ga_BT : PySem.W.findIn K (.ref C_BadTaking) "__getattribute__" = some (some (.builtin "BaseException.__getattribute__")))
    (gg_BT : PySem.W.findIn K (.ref C_BadTaking) "__getattr__" = some none)
    (hd_BT : PySem.W.hasDictIn K C_BadTaking = true)
    (cc_BT : PySem.W.findIn K (.ref C_BadTaking) "__class__" = some (some (.builtin "object.__class__")))
    (mo_BT : PySem.W.mroIn K C_BadTaking (.type "object") = some true)
    (k_BT : PySem.W.kitOne K (.ref C_BadTaking) (.ref C_BadTaking) = some true)
    : ∃ fd : FuncData, (∀ (s : Shared) (u : Value), BindsTo s fd ⟨[u], []⟩ [("_law_script", u)]) ∧ ∀ base : Heap, K.In base → base.Ns mainGlobals mg → FnOk P w K mg base CX0 10 fa fd ["_law_script"] (sp_law K cs0) := by
  have e := hfa.symm.trans (PySem.W.mg_of X G a_law)
  cases e
  have T : Txt K mg (Cs.mk C_Lost C_Won C_Answer C_HeapError C_BadTaking) := { isqrt := PySem.W.mg_of X G z_isqrt, n_abs := PySem.W.mg_none_of X G z_abs, n_bool := PySem.W.mg_none_of X G z_bool, n_int := PySem.W.mg_none_of X G z_int, n_isinstance := PySem.W.mg_none_of X G z_isinstance, n_len := PySem.W.mg_none_of X G z_len, n_max := PySem.W.mg_none_of X G z_max, n_min := PySem.W.mg_none_of X G z_min, n_range := PySem.W.mg_none_of X G z_range, n_tuple := PySem.W.mg_none_of X G z_tuple, g_Lost := PySem.W.mg_of X G g_Lost, cl_Lost := ⟨pg_Lost, hd_Lost, po_Lost, sa_Lost⟩, no_number := nf_Lost, in_Lost := ⟨⟨pg_Lost, hd_Lost, po_Lost, sa_Lost⟩, cc_Lost, xg, xt, mo_Lost⟩, no_shows_Lost := True.intro, g_Won := PySem.W.mg_of X G g_Won, cl_Won := ⟨pg_Won, hd_Won, po_Won, sa_Won⟩, no_taking := nf_Won, in_Won := ⟨⟨pg_Won, hd_Won, po_Won, sa_Won⟩, cc_Won, xg, xt, mo_Won⟩, no_shows_Won := True.intro, g_Answer := PySem.W.mg_of X G g_Answer, k_LL := k_LL, k_LW := k_LW, k_LA := k_LA, k_WL := k_WL, k_WW := k_WW, k_WA := k_WA, g_HeapError := PySem.W.mg_of X G g_HeapError, g_BadTaking := PySem.W.mg_of X G g_BadTaking, x_BT := x_BT, kp_BT := kp_BT, b_BT := b_BT, t_BT := t_BT, e_BT := PySem.W.exm_ref b_HE d_HE t_HE s_BH, i_BT := ⟨ga_BT, gg_BT, b_BT, hd_BT, cc_BT, xg, xt, mo_BT⟩, k_BT := k_BT }
  have F_is_whole := L2.fun_mk (st := s_is_whole) l_is_whole c_is_whole k_is_whole
  have b_is_whole := F_is_whole.binds (ps := ["value"]) fun _ _ _ _ _ _ us hl => match us, hl with | [_], _ => rfl
  have F__times_root := L2.fun_mk (st := s__times_root) l__times_root c__times_root k__times_root
  have b__times_root := F__times_root.binds (ps := ["bound", "number"]) fun _ _ _ _ _ _ us hl => match us, hl with | [_, _], _ => rfl
  have F__is_there := L2.fun_mk (st := s__is_there) l__is_there c__is_there k__is_there
  have b__is_there := F__is_there.binds (ps := ["heaps", "taking"]) fun _ _ _ _ _ _ us hl => match us, hl with | [_, _], _ => rfl
  have F__is_let := L2.fun_mk (st := s__is_let) l__is_let c__is_let k__is_let
  have b__is_let := F__is_let.binds (ps := ["bound", "taking"]) fun _ _ _ _ _ _ us hl => match us, hl with | [_, _], _ => rfl
  have F_Lost___init__ := L2.fun_mk (st := s_Lost___init__) l_Lost___init__ c_Lost___init__ k_Lost___init__
  have b_Lost___init__ := F_Lost___init__.binds (ps := ["self", "number"]) fun _ _ _ _ _ _ us hl => match us, hl with | [_, _], _ => rfl
  have F_Won___init__ := L2.fun_mk (st := s_Won___init__) l_Won___init__ c_Won___init__ k_Won___init__
  have b_Won___init__ := F_Won___init__.binds (ps := ["self", "taking"]) fun _ _ _ _ _ _ us hl => match us, hl with | [_, _], _ => rfl
  have F__law_cell_at := L2.fun_mk (st := s__law_cell_at) l__law_cell_at c__law_cell_at k__law_cell_at
  have b__law_cell_at := F__law_cell_at.binds (ps := ["_law_script", "_law_k"]) fun _ _ _ _ _ _ us hl => match us, hl with | [_, _], _ => rfl
  have F__law_draw := L2.fun_mk (st := s__law_draw) l__law_draw c__law_draw k__law_draw
  have b__law_draw := F__law_draw.binds (ps := ["_law_cell", "_law_k", "_law_many"]) fun _ _ _ _ _ _ us hl => match us, hl with | [_, _, _], _ => rfl
  have F__law_root := L2.fun_mk (st := s__law_root) l__law_root c__law_root k__law_root
  have b__law_root := F__law_root.binds (ps := ["_law_number_here"]) fun _ _ _ _ _ _ us hl => match us, hl with | [_], _ => rfl
  have F__law_may := L2.fun_mk (st := s__law_may) l__law_may c__law_may k__law_may
  have b__law_may := F__law_may.binds (ps := ["_law_bound_here", "_law_heaps_here", "_law_taking"]) fun _ _ _ _ _ _ us hl => match us, hl with | [_, _, _], _ => rfl
  have F__law_whole := L2.fun_mk (st := s__law_whole) l__law_whole c__law_whole k__law_whole
  have b__law_whole := F__law_whole.binds (ps := ["_law_number_here"]) fun _ _ _ _ _ _ us hl => match us, hl with | [_], _ => rfl
  have F__law_says := L2.fun_mk (st := s__law_says) l__law_says c__law_says k__law_says
  have b__law_says := F__law_says.binds (ps := ["_law_said", "_law_due_here"]) fun _ _ _ _ _ _ us hl => match us, hl with | [_, _], _ => rfl
  have F_is_pair := L2.fun_mk (st := s_is_pair) l_is_pair c_is_pair k_is_pair
  have b_is_pair := F_is_pair.binds (ps := ["value"]) fun _ _ _ _ _ _ us hl => match us, hl with | [_], _ => rfl
  have F_is_bound := L2.fun_mk (st := s_is_bound) l_is_bound c_is_bound k_is_bound
  have b_is_bound := F_is_bound.binds (ps := ["value"]) fun _ _ _ _ _ _ us hl => match us, hl with | [_], _ => rfl
  have F_check_number := L2.fun_mk (st := s_check_number) l_check_number c_check_number k_check_number
  have b_check_number := F_check_number.binds (ps := ["number", "first"]) fun _ _ _ _ _ _ us hl => match us, hl with | [_, _], _ => rfl
  have F__lessers_below := L2.fun_mk (st := s__lessers_below) l__lessers_below c__lessers_below k__lessers_below
  have b__lessers_below := F__lessers_below.binds (ps := ["bound", "end"]) fun _ _ _ _ _ _ us hl => match us, hl with | [_, _], _ => rfl
  have F__law_number := L2.fun_mk (st := s__law_number) l__law_number c__law_number k__law_number
  have b__law_number := F__law_number.binds (ps := ["_law_cell", "_law_k", "_law_limit"]) fun _ _ _ _ _ _ us hl => match us, hl with | [_, _, _], _ => rfl
  have F__law_pair := L2.fun_mk (st := s__law_pair) l__law_pair c__law_pair k__law_pair
  have b__law_pair := F__law_pair.binds (ps := ["_law_by", "_law_at"]) fun _ _ _ _ _ _ us hl => match us, hl with | [_, _], _ => rfl
  have F__law_is_pair := L2.fun_mk (st := s__law_is_pair) l__law_is_pair c__law_is_pair k__law_is_pair
  have b__law_is_pair := F__law_is_pair.binds (ps := ["_law_found"]) fun _ _ _ _ _ _ us hl => match us, hl with | [_], _ => rfl
  have F_are_heaps := L2.fun_mk (st := s_are_heaps) l_are_heaps c_are_heaps k_are_heaps
  have b_are_heaps := F_are_heaps.binds (ps := ["value"]) fun _ _ _ _ _ _ us hl => match us, hl with | [_], _ => rfl
  have F_check_bound := L2.fun_mk (st := s_check_bound) l_check_bound c_check_bound k_check_bound
  have b_check_bound := F_check_bound.binds (ps := ["bound"]) fun _ _ _ _ _ _ us hl => match us, hl with | [_], _ => rfl
  have F__law_lost := L2.fun_mk (st := s__law_lost) l__law_lost c__law_lost k__law_lost
  have b__law_lost := F__law_lost.binds (ps := ["_law_by", "_law_both"]) fun _ _ _ _ _ _ us hl => match us, hl with | [_, _], _ => rfl
  have F__law_bound := L2.fun_mk (st := s__law_bound) l__law_bound c__law_bound k__law_bound
  have b__law_bound := F__law_bound.binds (ps := ["_law_script", "_law_k"]) fun _ _ _ _ _ _ us hl => match us, hl with | [_, _], _ => rfl
  have F__law_heaps := L2.fun_mk (st := s__law_heaps) l__law_heaps c__law_heaps k__law_heaps
  have b__law_heaps := F__law_heaps.binds (ps := ["_law_script", "_law_k", "_law_bound_here"]) fun _ _ _ _ _ _ us hl => match us, hl with | [_, _, _], _ => rfl
  have F_check_heaps := L2.fun_mk (st := s_check_heaps) l_check_heaps c_check_heaps k_check_heaps
  have b_check_heaps := F_check_heaps.binds (ps := ["heaps"]) fun _ _ _ _ _ _ us hl => match us, hl with | [_], _ => rfl
  have F_pair_by := L2.fun_mk (st := s_pair_by) l_pair_by c_pair_by k_pair_by
  have b_pair_by := F_pair_by.binds (ps := ["bound", "number"]) fun _ _ _ _ _ _ us hl => match us, hl with | [_, _], _ => rfl
  have F__law_due := L2.fun_mk (st := s__law_due) l__law_due c__law_due k__law_due
  have b__law_due := F__law_due.binds (ps := ["_law_bound_here", "_law_heaps_here", "_law_found"]) fun _ _ _ _ _ _ us hl => match us, hl with | [_, _, _], _ => rfl
  have F_pair_with := L2.fun_mk (st := s_pair_with) l_pair_with c_pair_with k_pair_with
  have b_pair_with := F_pair_with.binds (ps := ["bound", "number"]) fun _ _ _ _ _ _ us hl => match us, hl with | [_, _], _ => rfl
  have F_number_of := L2.fun_mk (st := s_number_of) l_number_of c_number_of k_number_of
  have b_number_of := F_number_of.binds (ps := ["bound", "heaps"]) fun _ _ _ _ _ _ us hl => match us, hl with | [_, _], _ => rfl
  have F_can := L2.fun_mk (st := s_can) l_can c_can k_can
  have b_can := F_can.binds (ps := ["bound", "heaps", "taking"]) fun _ _ _ _ _ _ us hl => match us, hl with | [_, _, _], _ => rfl
  have F_left := L2.fun_mk (st := s_left) l_left c_left k_left
  have b_left := F_left.binds (ps := ["bound", "heaps", "taking"]) fun _ _ _ _ _ _ us hl => match us, hl with | [_, _, _], _ => rfl
  have F_Lost_shows := L2.fun_mk (st := s_Lost_shows) l_Lost_shows c_Lost_shows k_Lost_shows
  have b_Lost_shows := F_Lost_shows.binds (ps := ["self", "bound", "heaps"]) fun _ _ _ _ _ _ us hl => match us, hl with | [_, _, _], _ => rfl
  have F__aim := L2.fun_mk (st := s__aim) l__aim c__aim k__aim
  have b__aim := F__aim.binds (ps := ["bound", "lesser", "greater"]) fun _ _ _ _ _ _ us hl => match us, hl with | [_, _, _], _ => rfl
  have F_Won_shows := L2.fun_mk (st := s_Won_shows) l_Won_shows c_Won_shows k_Won_shows
  have b_Won_shows := F_Won_shows.binds (ps := ["self", "bound", "heaps"]) fun _ _ _ _ _ _ us hl => match us, hl with | [_, _, _], _ => rfl
  have F__winning := L2.fun_mk (st := s__winning) l__winning c__winning k__winning
  have b__winning := F__winning.binds (ps := ["bound", "heaps"]) fun _ _ _ _ _ _ us hl => match us, hl with | [_, _], _ => rfl
  have F_told := L2.fun_mk (st := s_told) l_told c_told k_told
  have b_told := F_told.binds (ps := ["bound", "heaps"]) fun _ _ _ _ _ _ us hl => match us, hl with | [_, _], _ => rfl
  have F__law_refused := L2.fun_mk (st := s__law_refused) l__law_refused c__law_refused k__law_refused
  have b__law_refused := F__law_refused.binds (ps := ["_law_bound_here", "_law_heaps_here", "_law_taking"]) fun _ _ _ _ _ _ us hl => match us, hl with | [_, _, _], _ => rfl
  have F__law_right := L2.fun_mk (st := s__law_right) l__law_right c__law_right k__law_right
  have b__law_right := F__law_right.binds (ps := ["_law_bound_here", "_law_heaps_here", "_law_others"]) fun _ _ _ _ _ _ us hl => match us, hl with | [_, _, _], _ => rfl
  have F__law_takings_right := L2.fun_mk (st := s__law_takings_right) l__law_takings_right c__law_takings_right k__law_takings_right
  have b__law_takings_right := F__law_takings_right.binds (ps := ["_law_bound_here", "_law_heaps_here", "_law_cell"]) fun _ _ _ _ _ _ us hl => match us, hl with | [_, _, _], _ => rfl
  have F_law := L2.fun_mk (st := s_law) l_law c_law k_law
  have b_law := F_law.binds (ps := ["_law_script"]) fun _ _ _ _ _ _ us hl => match us, hl with | [_], _ => rfl
  have mk_Lost : L2.Mk K C_Lost f_Lost___init__ := ⟨m_Lost, a_Lost___init__, i_Lost___init__, kc_Lost⟩
  have cl_Lost : L2.Cls K C_Lost := ⟨pg_Lost, hd_Lost, po_Lost, sa_Lost⟩
  have mk_Won : L2.Mk K C_Won f_Won___init__ := ⟨m_Won, a_Won___init__, i_Won___init__, kc_Won⟩
  have cl_Won : L2.Cls K C_Won := ⟨pg_Won, hd_Won, po_Won, sa_Won⟩
  refine ⟨PySem.W.fnOf "law" "law" (L2.defArgs s_law) (L2.defBody s_law) (L2.defScope s_law) .none kV_law dc_law pm_law an_law cd_law ct_law, fun s u => .of_eq rfl, fun base _ _ => ?_⟩
  have kis_whole : C8.Cal P w K mg base 1 "is_whole" (sp_is_whole K (Cs.mk C_Lost C_Won C_Answer C_HeapError C_BadTaking)) [] := ⟨f_is_whole, _, _, [], ok_is_whole (cs := (Cs.mk C_Lost C_Won C_Answer C_HeapError C_BadTaking)) (P := P) (w := w) (base := base) F_is_whole T, PySem.W.mg_of X G a_is_whole, k_is_whole, b_is_whole, .nil⟩
  have k_times_root : C8.Cal P w K mg base 1 "_times_root" (sp__times_root K (Cs.mk C_Lost C_Won C_Answer C_HeapError C_BadTaking)) [] := ⟨f__times_root, _, _, [], ok__times_root (cs := (Cs.mk C_Lost C_Won C_Answer C_HeapError C_BadTaking)) (P := P) (w := w) (base := base) F__times_root T, PySem.W.mg_of X G a__times_root, k__times_root, b__times_root, .nil⟩
  have k_is_there : C8.Cal P w K mg base 1 "_is_there" (sp__is_there K (Cs.mk C_Lost C_Won C_Answer C_HeapError C_BadTaking)) [] := ⟨f__is_there, _, _, [], ok__is_there (cs := (Cs.mk C_Lost C_Won C_Answer C_HeapError C_BadTaking)) (P := P) (w := w) (base := base) F__is_there T, PySem.W.mg_of X G a__is_there, k__is_there, b__is_there, .nil⟩
  have k_is_let : C8.Cal P w K mg base 1 "_is_let" (sp__is_let K (Cs.mk C_Lost C_Won C_Answer C_HeapError C_BadTaking)) [] := ⟨f__is_let, _, _, [], ok__is_let (cs := (Cs.mk C_Lost C_Won C_Answer C_HeapError C_BadTaking)) (P := P) (w := w) (base := base) F__is_let T, PySem.W.mg_of X G a__is_let, k__is_let, b__is_let, .nil⟩
  have kLost___init__ : C8.Mak P w K mg base 1 "Lost" C_Lost (sp_Lost___init__ K (Cs.mk C_Lost C_Won C_Answer C_HeapError C_BadTaking)) [] := ⟨f_Lost___init__, _, _, [], mk_Lost, ok_Lost___init__ (cs := (Cs.mk C_Lost C_Won C_Answer C_HeapError C_BadTaking)) (P := P) (w := w) (base := base) F_Lost___init__ T, PySem.W.mg_of X G g_Lost, b_Lost___init__, .nil⟩
  have kWon___init__ : C8.Mak P w K mg base 1 "Won" C_Won (sp_Won___init__ K (Cs.mk C_Lost C_Won C_Answer C_HeapError C_BadTaking)) [] := ⟨f_Won___init__, _, _, [], mk_Won, ok_Won___init__ (cs := (Cs.mk C_Lost C_Won C_Answer C_HeapError C_BadTaking)) (P := P) (w := w) (base := base) F_Won___init__ T, PySem.W.mg_of X G g_Won, b_Won___init__, .nil⟩
  have k_law_cell_at : C8.Cal P w K mg base 1 "_law_cell_at" (sp__law_cell_at K (Cs.mk C_Lost C_Won C_Answer C_HeapError C_BadTaking)) [] := ⟨f__law_cell_at, _, _, [], ok__law_cell_at (cs := (Cs.mk C_Lost C_Won C_Answer C_HeapError C_BadTaking)) (P := P) (w := w) (base := base) F__law_cell_at T, PySem.W.mg_of X G a__law_cell_at, k__law_cell_at, b__law_cell_at, .nil⟩
  have k_law_draw : C8.Cal P w K mg base 1 "_law_draw" (sp__law_draw K (Cs.mk C_Lost C_Won C_Answer C_HeapError C_BadTaking)) [] := ⟨f__law_draw, _, _, [], ok__law_draw (cs := (Cs.mk C_Lost C_Won C_Answer C_HeapError C_BadTaking)) (P := P) (w := w) (base := base) F__law_draw T, PySem.W.mg_of X G a__law_draw, k__law_draw, b__law_draw, .nil⟩
  have k_law_root : C8.Cal P w K mg base 1 "_law_root" (sp__law_root K (Cs.mk C_Lost C_Won C_Answer C_HeapError C_BadTaking)) [] := ⟨f__law_root, _, _, [], ok__law_root (cs := (Cs.mk C_Lost C_Won C_Answer C_HeapError C_BadTaking)) (P := P) (w := w) (base := base) F__law_root T, PySem.W.mg_of X G a__law_root, k__law_root, b__law_root, .nil⟩
  have k_law_may : C8.Cal P w K mg base 1 "_law_may" (sp__law_may K (Cs.mk C_Lost C_Won C_Answer C_HeapError C_BadTaking)) [] := ⟨f__law_may, _, _, [], ok__law_may (cs := (Cs.mk C_Lost C_Won C_Answer C_HeapError C_BadTaking)) (P := P) (w := w) (base := base) F__law_may T, PySem.W.mg_of X G a__law_may, k__law_may, b__law_may, .nil⟩
  have k_law_whole : C8.Cal P w K mg base 1 "_law_whole" (sp__law_whole K (Cs.mk C_Lost C_Won C_Answer C_HeapError C_BadTaking)) [] := ⟨f__law_whole, _, _, [], ok__law_whole (cs := (Cs.mk C_Lost C_Won C_Answer C_HeapError C_BadTaking)) (P := P) (w := w) (base := base) F__law_whole T, PySem.W.mg_of X G a__law_whole, k__law_whole, b__law_whole, .nil⟩
  have k_law_says : C8.Cal P w K mg base 1 "_law_says" (sp__law_says K (Cs.mk C_Lost C_Won C_Answer C_HeapError C_BadTaking)) [] := ⟨f__law_says, _, _, [], ok__law_says (cs := (Cs.mk C_Lost C_Won C_Answer C_HeapError C_BadTaking)) (P := P) (w := w) (base := base) F__law_says T, PySem.W.mg_of X G a__law_says, k__law_says, b__law_says, .nil⟩
  have kis_pair : C8.Cal P w K mg base 2 "is_pair" (sp_is_pair K (Cs.mk C_Lost C_Won C_Answer C_HeapError C_BadTaking)) [] := ⟨f_is_pair, _, _, [], ok_is_pair (cs := (Cs.mk C_Lost C_Won C_Answer C_HeapError C_BadTaking)) (P := P) (w := w) (base := base) F_is_pair T kis_whole, PySem.W.mg_of X G a_is_pair, k_is_pair, b_is_pair, .nil⟩
  have kis_bound : C8.Cal P w K mg base 2 "is_bound" (sp_is_bound K (Cs.mk C_Lost C_Won C_Answer C_HeapError C_BadTaking)) [] := ⟨f_is_bound, _, _, [], ok_is_bound (cs := (Cs.mk C_Lost C_Won C_Answer C_HeapError C_BadTaking)) (P := P) (w := w) (base := base) F_is_bound T kis_whole, PySem.W.mg_of X G a_is_bound, k_is_bound, b_is_bound, .nil⟩
  have kcheck_number : C8.Cal P w K mg base 2 "check_number" (sp_check_number K (Cs.mk C_Lost C_Won C_Answer C_HeapError C_BadTaking)) [] := ⟨f_check_number, _, _, [], ok_check_number (cs := (Cs.mk C_Lost C_Won C_Answer C_HeapError C_BadTaking)) (P := P) (w := w) (base := base) F_check_number T kis_whole, PySem.W.mg_of X G a_check_number, k_check_number, b_check_number, .nil⟩
  have k_lessers_below : C8.Cal P w K mg base 2 "_lessers_below" (sp__lessers_below K (Cs.mk C_Lost C_Won C_Answer C_HeapError C_BadTaking)) [] := ⟨f__lessers_below, _, _, [], ok__lessers_below (cs := (Cs.mk C_Lost C_Won C_Answer C_HeapError C_BadTaking)) (P := P) (w := w) (base := base) F__lessers_below T k_times_root, PySem.W.mg_of X G a__lessers_below, k__lessers_below, b__lessers_below, .nil⟩
  have k_law_number : C8.Cal P w K mg base 2 "_law_number" (sp__law_number K (Cs.mk C_Lost C_Won C_Answer C_HeapError C_BadTaking)) [] := ⟨f__law_number, _, _, [], ok__law_number (cs := (Cs.mk C_Lost C_Won C_Answer C_HeapError C_BadTaking)) (P := P) (w := w) (base := base) F__law_number T k_law_draw, PySem.W.mg_of X G a__law_number, k__law_number, b__law_number, .nil⟩
  have k_law_pair : C8.Cal P w K mg base 2 "_law_pair" (sp__law_pair K (Cs.mk C_Lost C_Won C_Answer C_HeapError C_BadTaking)) [] := ⟨f__law_pair, _, _, [], ok__law_pair (cs := (Cs.mk C_Lost C_Won C_Answer C_HeapError C_BadTaking)) (P := P) (w := w) (base := base) F__law_pair T k_law_root, PySem.W.mg_of X G a__law_pair, k__law_pair, b__law_pair, .nil⟩
  have k_law_is_pair : C8.Cal P w K mg base 2 "_law_is_pair" (sp__law_is_pair K (Cs.mk C_Lost C_Won C_Answer C_HeapError C_BadTaking)) [] := ⟨f__law_is_pair, _, _, [], ok__law_is_pair (cs := (Cs.mk C_Lost C_Won C_Answer C_HeapError C_BadTaking)) (P := P) (w := w) (base := base) F__law_is_pair T k_law_whole, PySem.W.mg_of X G a__law_is_pair, k__law_is_pair, b__law_is_pair, .nil⟩
  have kare_heaps : C8.Cal P w K mg base 3 "are_heaps" (sp_are_heaps K (Cs.mk C_Lost C_Won C_Answer C_HeapError C_BadTaking)) [] := ⟨f_are_heaps, _, _, [], ok_are_heaps (cs := (Cs.mk C_Lost C_Won C_Answer C_HeapError C_BadTaking)) (P := P) (w := w) (base := base) F_are_heaps T kis_pair, PySem.W.mg_of X G a_are_heaps, k_are_heaps, b_are_heaps, .nil⟩
  have kcheck_bound : C8.Cal P w K mg base 3 "check_bound" (sp_check_bound K (Cs.mk C_Lost C_Won C_Answer C_HeapError C_BadTaking)) [] := ⟨f_check_bound, _, _, [], ok_check_bound (cs := (Cs.mk C_Lost C_Won C_Answer C_HeapError C_BadTaking)) (P := P) (w := w) (base := base) F_check_bound T kis_bound, PySem.W.mg_of X G a_check_bound, k_check_bound, b_check_bound, .nil⟩
  have k_law_lost : C8.Cal P w K mg base 3 "_law_lost" (sp__law_lost K (Cs.mk C_Lost C_Won C_Answer C_HeapError C_BadTaking)) [] := ⟨f__law_lost, _, _, [], ok__law_lost (cs := (Cs.mk C_Lost C_Won C_Answer C_HeapError C_BadTaking)) (P := P) (w := w) (base := base) F__law_lost T k_law_pair, PySem.W.mg_of X G a__law_lost, k__law_lost, b__law_lost, .nil⟩
  have k_law_bound : C8.Cal P w K mg base 3 "_law_bound" (sp__law_bound K (Cs.mk C_Lost C_Won C_Answer C_HeapError C_BadTaking)) [] := ⟨f__law_bound, _, _, [], ok__law_bound (cs := (Cs.mk C_Lost C_Won C_Answer C_HeapError C_BadTaking)) (P := P) (w := w) (base := base) F__law_bound T k_law_cell_at k_law_draw k_law_number, PySem.W.mg_of X G a__law_bound, k__law_bound, b__law_bound, .nil⟩
  have k_law_heaps : C8.Cal P w K mg base 3 "_law_heaps" (sp__law_heaps K (Cs.mk C_Lost C_Won C_Answer C_HeapError C_BadTaking)) [] := ⟨f__law_heaps, _, _, [], ok__law_heaps (cs := (Cs.mk C_Lost C_Won C_Answer C_HeapError C_BadTaking)) (P := P) (w := w) (base := base) F__law_heaps T k_law_cell_at k_law_draw k_law_number k_law_pair, PySem.W.mg_of X G a__law_heaps, k__law_heaps, b__law_heaps, .nil⟩
  have kcheck_heaps : C8.Cal P w K mg base 4 "check_heaps" (sp_check_heaps K (Cs.mk C_Lost C_Won C_Answer C_HeapError C_BadTaking)) [] := ⟨f_check_heaps, _, _, [], ok_check_heaps (cs := (Cs.mk C_Lost C_Won C_Answer C_HeapError C_BadTaking)) (P := P) (w := w) (base := base) F_check_heaps T kare_heaps, PySem.W.mg_of X G a_check_heaps, k_check_heaps, b_check_heaps, .nil⟩
  have kpair_by : C8.Cal P w K mg base 4 "pair_by" (sp_pair_by K (Cs.mk C_Lost C_Won C_Answer C_HeapError C_BadTaking)) [] := ⟨f_pair_by, _, _, [], ok_pair_by (cs := (Cs.mk C_Lost C_Won C_Answer C_HeapError C_BadTaking)) (P := P) (w := w) (base := base) F_pair_by T k_times_root kcheck_number kcheck_bound, PySem.W.mg_of X G a_pair_by, k_pair_by, b_pair_by, .nil⟩
  have k_law_due : C8.Cal P w K mg base 4 "_law_due" (sp__law_due K (Cs.mk C_Lost C_Won C_Answer C_HeapError C_BadTaking)) [] := ⟨f__law_due, _, _, [], ok__law_due (cs := (Cs.mk C_Lost C_Won C_Answer C_HeapError C_BadTaking)) (P := P) (w := w) (base := base) F__law_due T k_law_may k_law_pair k_law_lost, PySem.W.mg_of X G a__law_due, k__law_due, b__law_due, .nil⟩
  have kpair_with : C8.Cal P w K mg base 5 "pair_with" (sp_pair_with K (Cs.mk C_Lost C_Won C_Answer C_HeapError C_BadTaking)) [] := ⟨f_pair_with, _, _, [], ok_pair_with (cs := (Cs.mk C_Lost C_Won C_Answer C_HeapError C_BadTaking)) (P := P) (w := w) (base := base) F_pair_with T kcheck_number k_lessers_below kcheck_bound kpair_by, PySem.W.mg_of X G a_pair_with, k_pair_with, b_pair_with, .nil⟩
  have knumber_of : C8.Cal P w K mg base 5 "number_of" (sp_number_of K (Cs.mk C_Lost C_Won C_Answer C_HeapError C_BadTaking)) [] := ⟨f_number_of, _, _, [], ok_number_of (cs := (Cs.mk C_Lost C_Won C_Answer C_HeapError C_BadTaking)) (P := P) (w := w) (base := base) F_number_of T kpair_by, PySem.W.mg_of X G a_number_of, k_number_of, b_number_of, .nil⟩
  have kcan : C8.Cal P w K mg base 5 "can" (sp_can K (Cs.mk C_Lost C_Won C_Answer C_HeapError C_BadTaking)) [] := ⟨f_can, _, _, [], ok_can (cs := (Cs.mk C_Lost C_Won C_Answer C_HeapError C_BadTaking)) (P := P) (w := w) (base := base) F_can T k_is_there k_is_let kis_pair kcheck_bound kcheck_heaps, PySem.W.mg_of X G a_can, k_can, b_can, .nil⟩
  have kleft : C8.Cal P w K mg base 6 "left" (sp_left K (Cs.mk C_Lost C_Won C_Answer C_HeapError C_BadTaking)) [] := ⟨f_left, _, _, [], ok_left (cs := (Cs.mk C_Lost C_Won C_Answer C_HeapError C_BadTaking)) (P := P) (w := w) (base := base) F_left T kcan, PySem.W.mg_of X G a_left, k_left, b_left, .nil⟩
  have kLost_shows : C8.Met P w K mg base 6 C_Lost "shows" (sp_Lost_shows K (Cs.mk C_Lost C_Won C_Answer C_HeapError C_BadTaking)) [] := ⟨f_Lost_shows, _, _, [], cl_Lost, ⟨a_Lost_shows, i_Lost_shows, k_Lost_shows⟩, ok_Lost_shows (cs := (Cs.mk C_Lost C_Won C_Answer C_HeapError C_BadTaking)) (P := P) (w := w) (base := base) F_Lost_shows T kis_whole kis_bound kare_heaps knumber_of, b_Lost_shows, .nil⟩
  have k_aim : C8.Cal P w K mg base 6 "_aim" (sp__aim K (Cs.mk C_Lost C_Won C_Answer C_HeapError C_BadTaking)) [] := ⟨f__aim, _, _, [], ok__aim (cs := (Cs.mk C_Lost C_Won C_Answer C_HeapError C_BadTaking)) (P := P) (w := w) (base := base) F__aim T kpair_by kpair_with, PySem.W.mg_of X G a__aim, k__aim, b__aim, .nil⟩
  have kleft__x : CalX P w K mg base 6 "left" ["bound", "heaps", "taking"] (sp_left__x K (Cs.mk C_Lost C_Won C_Answer C_HeapError C_BadTaking)) := ⟨f_left, _, ok_left__x (cs := (Cs.mk C_Lost C_Won C_Answer C_HeapError C_BadTaking)) (P := P) (w := w) (base := base) F_left T kcan, PySem.W.mg_of X G a_left, k_left, b_left⟩
  have kWon_shows : C8.Met P w K mg base 7 C_Won "shows" (sp_Won_shows K (Cs.mk C_Lost C_Won C_Answer C_HeapError C_BadTaking)) [] := ⟨f_Won_shows, _, _, [], cl_Won, ⟨a_Won_shows, i_Won_shows, k_Won_shows⟩, ok_Won_shows (cs := (Cs.mk C_Lost C_Won C_Answer C_HeapError C_BadTaking)) (P := P) (w := w) (base := base) F_Won_shows T kis_pair kis_bound kare_heaps knumber_of kcan kleft, b_Won_shows, .nil⟩
  have k_winning : C8.Cal P w K mg base 7 "_winning" (sp__winning K (Cs.mk C_Lost C_Won C_Answer C_HeapError C_BadTaking)) [] := ⟨f__winning, _, _, [], ok__winning (cs := (Cs.mk C_Lost C_Won C_Answer C_HeapError C_BadTaking)) (P := P) (w := w) (base := base) F__winning T k_aim, PySem.W.mg_of X G a__winning, k__winning, b__winning, .nil⟩
  have ktold : C8.Cal P w K mg base 8 "told" (sp_told K (Cs.mk C_Lost C_Won C_Answer C_HeapError C_BadTaking)) [] := ⟨f_told, _, _, [], ok_told (cs := (Cs.mk C_Lost C_Won C_Answer C_HeapError C_BadTaking)) (P := P) (w := w) (base := base) F_told T kLost___init__ kWon___init__ kcheck_bound kcheck_heaps knumber_of k_winning, PySem.W.mg_of X G a_told, k_told, b_told, .nil⟩
  have k_law_refused : C8.Cal P w K mg base 8 "_law_refused" (sp__law_refused K (Cs.mk C_Lost C_Won C_Answer C_HeapError C_BadTaking)) [] := ⟨f__law_refused, _, _, [], ok__law_refused (cs := (Cs.mk C_Lost C_Won C_Answer C_HeapError C_BadTaking)) (P := P) (w := w) (base := base) F__law_refused T kleft__x, PySem.W.mg_of X G a__law_refused, k__law_refused, b__law_refused, .nil⟩
  have k_law_right : C8.Cal P w K mg base 9 "_law_right" (sp__law_right K (Cs.mk C_Lost C_Won C_Answer C_HeapError C_BadTaking)) [] := ⟨f__law_right, _, _, [], ok__law_right (cs := (Cs.mk C_Lost C_Won C_Answer C_HeapError C_BadTaking)) (P := P) (w := w) (base := base) F__law_right T k_law_whole k_law_says k_law_is_pair k_law_lost k_law_due kleft kLost_shows kWon_shows ktold, PySem.W.mg_of X G a__law_right, k__law_right, b__law_right, .nil⟩
  have k_law_takings_right : C8.Cal P w K mg base 9 "_law_takings_right" (sp__law_takings_right K (Cs.mk C_Lost C_Won C_Answer C_HeapError C_BadTaking)) [] := ⟨f__law_takings_right, _, _, [], ok__law_takings_right (cs := (Cs.mk C_Lost C_Won C_Answer C_HeapError C_BadTaking)) (P := P) (w := w) (base := base) F__law_takings_right T k_law_may k_law_says k_law_lost kcan kleft ktold k_law_refused, PySem.W.mg_of X G a__law_takings_right, k__law_takings_right, b__law_takings_right, .nil⟩
  exact ok_law (cs := (Cs.mk C_Lost C_Won C_Answer C_HeapError C_BadTaking)) (P := P) (w := w) (base := base) F_law T k_law_cell_at k_law_bound k_law_heaps ktold k_law_right k_law_takings_right
theorem walk_law {l : PySem.W.OpenLaw} {q : Program} {loose : List Str} {XP : (Str → Option Value) → Heap → Prop} {YP : World → Heap → Prop} {d : DefRec} {K : Params → PySem.W.Frag} (hn : l.most = some 63) (hdf : d.params.defaults = [])
    (hY : ∀ (w : World) (h : Heap), YP w h → (K w.params).In h)
    (F : ∀ (w : World) (mg : Str → Option Value) (fa : Addr) (h : Heap), (K w.params).In h → h.Ns mainGlobals mg → mg d.name = some (.ref fa) →
      ∃ fd : FuncData, (∀ (s : Shared) (u : Value), BindsTo s fd ⟨[u], []⟩ [("_law_script", u)]) ∧ ∀ base : Heap, (K w.params).In base → base.Ns mainGlobals mg → FnOk l.prog w (K w.params) mg base CX0 10 fa fd ["_law_script"] (sp_law (K w.params) cs0)) :
    PySem.W.WalkO q loose XP YP l.row.toRowW d [] (fun f vs => PySem.call f vs) :=
  L2.walk_ofB (n := 63) (k := 10) (x := "_law_script") (CX := fun _ => CX0) (sp := fun w => sp_law (K w.params) cs0) hn (by decide) hdf ⟨rfl, by decide, by decide⟩ hY F
    (fun _ _ a ns hl hb _ hS => ⟨a, ns, rfl, hS, fun z hz => sm_bits (hb z hz), hl, fun _ => rfl⟩) fun _ _ _ _ _ z => z
end TH
open PySem PySem.W PyProof.Rows
set_option maxRecDepth 100000 in
set_option maxHeartbeats 0 in
theorem PySem.Challenge.cw_twoheaps_k01_whole_told_holds : PySem.Challenge.rw_twoheaps_k01_whole_told.Holds := by
  w_on; o_law; k_head; (case hw => w_witness2)
  k_fill
  refine TH.walk_law (l := PySem.Challenge.rw_twoheaps_k01_whole_told) rfl rfl (fun w h Y => PySem.W.kIn_of Y) ?F
  case F =>
    intro w mg fa h KX G hmg
    refine' TH.all_mk KX G hmg ?g_Lost ?g_Won ?g_Answer ?g_HeapError ?g_BadTaking ?a_is_whole ?l_is_whole ?c_is_whole ?k_is_whole ?a__times_root ?l__times_root ?c__times_root ?k__times_root ?a__is_there ?l__is_there ?c__is_there ?k__is_there ?a__is_let ?l__is_let ?c__is_let ?k__is_let ?a_Lost___init__ ?i_Lost___init__ ?l_Lost___init__ ?c_Lost___init__ ?k_Lost___init__ ?a_Won___init__ ?i_Won___init__ ?l_Won___init__ ?c_Won___init__ ?k_Won___init__ ?a__law_cell_at ?l__law_cell_at ?c__law_cell_at ?k__law_cell_at ?a__law_draw ?l__law_draw ?c__law_draw ?k__law_draw ?a__law_root ?l__law_root ?c__law_root ?k__law_root ?a__law_may ?l__law_may ?c__law_may ?k__law_may ?a__law_whole ?l__law_whole ?c__law_whole ?k__law_whole ?a__law_says ?l__law_says ?c__law_says ?k__law_says ?a_is_pair ?l_is_pair ?c_is_pair ?k_is_pair ?a_is_bound ?l_is_bound ?c_is_bound ?k_is_bound ?a_check_number ?l_check_number ?c_check_number ?k_check_number ?a__lessers_below ?l__lessers_below ?c__lessers_below ?k__lessers_below ?a__law_number ?l__law_number ?c__law_number ?k__law_number ?a__law_pair ?l__law_pair ?c__law_pair ?k__law_pair ?a__law_is_pair ?l__law_is_pair ?c__law_is_pair ?k__law_is_pair ?a_are_heaps ?l_are_heaps ?c_are_heaps ?k_are_heaps ?a_check_bound ?l_check_bound ?c_check_bound ?k_check_bound ?a__law_lost ?l__law_lost ?c__law_lost ?k__law_lost ?a__law_bound ?l__law_bound ?c__law_bound ?k__law_bound ?a__law_heaps ?l__law_heaps ?c__law_heaps ?k__law_heaps ?a_check_heaps ?l_check_heaps ?c_check_heaps ?k_check_heaps ?a_pair_by ?l_pair_by ?c_pair_by ?k_pair_by ?a__law_due ?l__law_due ?c__law_due ?k__law_due ?a_pair_with ?l_pair_with ?c_pair_with ?k_pair_with ?a_number_of ?l_number_of ?c_number_of ?k_number_of ?a_can ?l_can ?c_can ?k_can ?a_left ?l_left ?c_left ?k_left ?a_Lost_shows ?i_Lost_shows ?l_Lost_shows ?c_Lost_shows ?k_Lost_shows ?a__aim ?l__aim ?c__aim ?k__aim ?a_Won_shows ?i_Won_shows ?l_Won_shows ?c_Won_shows ?k_Won_shows ?a__winning ?l__winning ?c__winning ?k__winning ?a_told ?l_told ?c_told ?k_told ?a__law_refused ?l__law_refused ?c__law_refused ?k__law_refused ?a__law_right ?l__law_right ?c__law_right ?k__law_right ?a__law_takings_right ?l__law_takings_right ?c__law_takings_right ?k__law_takings_right ?a_law ?l_law ?c_law ?k_law ?z_abs ?z_bool ?z_int ?z_isinstance ?z_isqrt ?z_len ?z_max ?z_min ?z_range ?z_tuple ?pg_Lost ?hd_Lost ?po_Lost ?sa_Lost ?m_Lost ?kc_Lost ?nf_Lost ?cc_Lost ?mo_Lost ?pg_Won ?hd_Won ?po_Won ?sa_Won ?m_Won ?kc_Won ?nf_Won ?cc_Won ?mo_Won ?xg ?xt ?k_LL ?k_LW ?k_LA ?k_WL ?k_WW ?k_WA ?x_BT ?kp_BT ?b_BT ?t_BT ?b_HE ?d_HE ?t_HE ?s_BH ?ga_BT ?gg_BT ?hd_BT ?cc_BT ?mo_BT ?k_BT
    (case g_Lost => k_is)
    (case g_Won => k_is)
    (case g_Answer => k_is)
    (case g_HeapError => k_is)
    (case g_BadTaking => k_is)
    (case a_is_whole => k_is)
    (case l_is_whole => k_is)
    (case c_is_whole => k_is)
    (case k_is_whole => k_is)
    (case a__times_root => k_is)
    (case l__times_root => k_is)
    (case c__times_root => k_is)
    (case k__times_root => k_is)
    (case a__is_there => k_is)
    (case l__is_there => k_is)
    (case c__is_there => k_is)
    (case k__is_there => k_is)
    (case a__is_let => k_is)
    (case l__is_let => k_is)
    (case c__is_let => k_is)
    (case k__is_let => k_is)
    (case a_Lost___init__ => k_is)
    (case i_Lost___init__ => k_is)
    (case l_Lost___init__ => k_is)
    (case c_Lost___init__ => k_is)
    (case k_Lost___init__ => k_is)
    (case a_Won___init__ => k_is)
    (case i_Won___init__ => k_is)
    (case l_Won___init__ => k_is)
    (case c_Won___init__ => k_is)
    (case k_Won___init__ => k_is)
    (case a__law_cell_at => k_is)
    (case l__law_cell_at => k_is)
    (case c__law_cell_at => k_is)
    (case k__law_cell_at => k_is)
    (case a__law_draw => k_is)
    (case l__law_draw => k_is)
    (case c__law_draw => k_is)
    (case k__law_draw => k_is)
    (case a__law_root => k_is)
    (case l__law_root => k_is)
    (case c__law_root => k_is)
    (case k__law_root => k_is)
    (case a__law_may => k_is)
    (case l__law_may => k_is)
    (case c__law_may => k_is)
    (case k__law_may => k_is)
    (case a__law_whole => k_is)
    (case l__law_whole => k_is)
    (case c__law_whole => k_is)
    (case k__law_whole => k_is)
    (case a__law_says => k_is)
    (case l__law_says => k_is)
    (case c__law_says => k_is)
    (case k__law_says => k_is)
    (case a_is_pair => k_is)
    (case l_is_pair => k_is)
    (case c_is_pair => k_is)
    (case k_is_pair => k_is)
    (case a_is_bound => k_is)
    (case l_is_bound => k_is)
    (case c_is_bound => k_is)
    (case k_is_bound => k_is)
    (case a_check_number => k_is)
    (case l_check_number => k_is)
    (case c_check_number => k_is)
    (case k_check_number => k_is)
    (case a__lessers_below => k_is)
    (case l__lessers_below => k_is)
    (case c__lessers_below => k_is)
    (case k__lessers_below => k_is)
    (case a__law_number => k_is)
    (case l__law_number => k_is)
    (case c__law_number => k_is)
    (case k__law_number => k_is)
    (case a__law_pair => k_is)
    (case l__law_pair => k_is)
    (case c__law_pair => k_is)
    (case k__law_pair => k_is)
    (case a__law_is_pair => k_is)
    (case l__law_is_pair => k_is)
    (case c__law_is_pair => k_is)
    (case k__law_is_pair => k_is)
    (case a_are_heaps => k_is)
    (case l_are_heaps => k_is)
    (case c_are_heaps => k_is)
    (case k_are_heaps => k_is)
    (case a_check_bound => k_is)
    (case l_check_bound => k_is)
    (case c_check_bound => k_is)
    (case k_check_bound => k_is)
    (case a__law_lost => k_is)
    (case l__law_lost => k_is)
    (case c__law_lost => k_is)
    (case k__law_lost => k_is)
    (case a__law_bound => k_is)
    (case l__law_bound => k_is)
    (case c__law_bound => k_is)
    (case k__law_bound => k_is)
    (case a__law_heaps => k_is)
    (case l__law_heaps => k_is)
    (case c__law_heaps => k_is)
    (case k__law_heaps => k_is)
    (case a_check_heaps => k_is)
    (case l_check_heaps => k_is)
    (case c_check_heaps => k_is)
    (case k_check_heaps => k_is)
    (case a_pair_by => k_is)
    (case l_pair_by => k_is)
    (case c_pair_by => k_is)
    (case k_pair_by => k_is)
    (case a__law_due => k_is)
    (case l__law_due => k_is)
    (case c__law_due => k_is)
    (case k__law_due => k_is)
    (case a_pair_with => k_is)
    (case l_pair_with => k_is)
    (case c_pair_with => k_is)
    (case k_pair_with => k_is)
    (case a_number_of => k_is)
    (case l_number_of => k_is)
    (case c_number_of => k_is)
    (case k_number_of => k_is)
    (case a_can => k_is)
    (case l_can => k_is)
    (case c_can => k_is)
    (case k_can => k_is)
    (case a_left => k_is)
    (case l_left => k_is)
    (case c_left => k_is)
    (case k_left => k_is)
    (case a_Lost_shows => k_is)
    (case i_Lost_shows => k_is)
    (case l_Lost_shows => k_is)
    (case c_Lost_shows => k_is)
    (case k_Lost_shows => k_is)
    (case a__aim => k_is)
    (case l__aim => k_is)
    (case c__aim => k_is)
    (case k__aim => k_is)
    (case a_Won_shows => k_is)
    (case i_Won_shows => k_is)
    (case l_Won_shows => k_is)
    (case c_Won_shows => k_is)
    (case k_Won_shows => k_is)
    (case a__winning => k_is)
    (case l__winning => k_is)
    (case c__winning => k_is)
    (case k__winning => k_is)
    (case a_told => k_is)
    (case l_told => k_is)
    (case c_told => k_is)
    (case k_told => k_is)
    (case a__law_refused => k_is)
    (case l__law_refused => k_is)
    (case c__law_refused => k_is)
    (case k__law_refused => k_is)
    (case a__law_right => k_is)
    (case l__law_right => k_is)
    (case c__law_right => k_is)
    (case k__law_right => k_is)
    (case a__law_takings_right => k_is)
    (case l__law_takings_right => k_is)
    (case c__law_takings_right => k_is)
    (case k__law_takings_right => k_is)
    (case a_law => k_is)
    (case l_law => k_is)
    (case c_law => k_is)
    (case k_law => k_is)
    (case z_abs => k_is)
    (case z_bool => k_is)
    (case z_int => k_is)
    (case z_isinstance => k_is)
    (case z_isqrt => k_is)
    (case z_len => k_is)
    (case z_max => k_is)
    (case z_min => k_is)
    (case z_range => k_is)
    (case z_tuple => k_is)
    (case pg_Lost => k_is)
    (case hd_Lost => k_is)
    (case po_Lost => k_is)
    (case sa_Lost => k_is)
    (case m_Lost => k_is)
    (case kc_Lost => k_is)
    (case nf_Lost => k_is)
    (case cc_Lost => k_is)
    (case mo_Lost => k_is)
    (case pg_Won => k_is)
    (case hd_Won => k_is)
    (case po_Won => k_is)
    (case sa_Won => k_is)
    (case m_Won => k_is)
    (case kc_Won => k_is)
    (case nf_Won => k_is)
    (case cc_Won => k_is)
    (case mo_Won => k_is)
    (case xg => k_is)
    (case xt => k_is)
    (case k_LL => (first | rfl | k_is))
    (case k_LW => (first | rfl | k_is))
    (case k_LA => (first | rfl | k_is))
    (case k_WL => (first | rfl | k_is))
    (case k_WW => (first | rfl | k_is))
    (case k_WA => (first | rfl | k_is))
    (case x_BT => k_exc)
    (case kp_BT => k_is)
    (case b_BT => k_is)
    (case t_BT => k_is)
    (case b_HE => k_is)
    (case d_HE => k_is)
    (case t_HE => k_is)
    (case s_BH => k_is)
    (case ga_BT => k_is)
    (case gg_BT => k_is)
    (case hd_BT => k_is)
    (case cc_BT => k_is)
    (case mo_BT => k_is)
    (case k_BT => (first | rfl | k_is))
#print axioms PySem.Challenge.cw_twoheaps_k01_whole_told_holds
