import PyProof.Rows.All
import Wide.All
import OpenK.AllK
import Wide.FinOn
import HandS.ForExc
import HandS.Wide
import HandS.WideBits
import HandS.Gcd
import HandS.IsInst
import HandS.Codes
import HandS.Style
import HandS.TupLe
import HandS.TupAny
import HandS.EndBits
import HandS.Evl
import HandS.LawCells
import HandS.Dict
import HandS.Iter
import HandS.Comp
import HandS.ExcIs
import KE.DataMinMax
import KE.KMathG
import Flt.RightSqrt
import HandS.ExcCtx
import HandS.HotCalls
import HandS.CallLocal
import HandS.WordsExc
import PySem.Challenge.RW_twoheaps_k05_refused
set_option Elab.async false
set_option linter.all false
set_option maxRecDepth 100000
set_option maxHeartbeats 4000000
namespace Th
/-! roots -/
def rtN : Nat → Nat
  | 0 => 0
  | n + 1 => if (rtN n + 1) * (rtN n + 1) ≤ n + 1 then rtN n + 1 else rtN n
theorem rtN_spec : ∀ n, rtN n * rtN n ≤ n ∧ n < (rtN n + 1) * (rtN n + 1)
  | 0 => by decide
  | n + 1 => by
    obtain ⟨h1, h2⟩ := rtN_spec n
    rw [rtN]
    split
    · rename_i c
      refine ⟨c, ?_⟩
      grind
    · omega
def rt (N : Int) : Int := (rtN N.toNat : Int)
theorem rt_nn (N : Int) : 0 ≤ rt N := Int.natCast_nonneg _
theorem rt_spec {N : Int} (h : 0 ≤ N) : rt N * rt N ≤ N ∧ N < (rt N + 1) * (rt N + 1) := by
  obtain ⟨h1, h2⟩ := rtN_spec N.toNat
  have e : ((N.toNat : Nat) : Int) = N := Int.toNat_of_nonneg h
  have h1' := Int.ofNat_le.mpr h1
  have h2' := Int.ofNat_lt.mpr h2
  rw [e] at h1' h2'
  unfold rt
  push_cast at h1' h2'
  exact ⟨h1', h2'⟩
theorem sq_le {x y : Int} (hx : 0 ≤ x) (h : x ≤ y) : x * x ≤ y * y := Int.mul_le_mul h h hx (by omega)
theorem sq_lt {x y : Int} (hx : 0 ≤ x) (h : x < y) : x * x < y * y := by
  have h1 : x * x ≤ x * y := Int.mul_le_mul_of_nonneg_left (by omega) hx
  have h2 : x * y < y * y := Int.mul_lt_mul_of_pos_right h (by omega)
  omega
theorem of_sq_le {x y : Int} (hy : 0 ≤ y) (h : x * x ≤ y * y) : x ≤ y := by
  by_cases c : x ≤ y
  · exact c
  · have := sq_lt hy (show y < x by omega)
    omega
theorem of_sq_lt {x y : Int} (hy : 0 ≤ y) (h : x * x < y * y) : x < y := by
  by_cases c : x < y
  · exact c
  · have := sq_le hy (show y ≤ x by omega)
    omega
theorem rt_uniq {N r : Int} (hr : 0 ≤ r) (h1 : r * r ≤ N) (h2 : N < (r + 1) * (r + 1)) : rt N = r := by
  have h0 : 0 ≤ r * r := Int.mul_nonneg hr hr
  obtain ⟨g1, g2⟩ := rt_spec (N := N) (by omega)
  have hn := rt_nn N
  have a := of_sq_lt (x := rt N) (y := r + 1) (by omega) (by omega)
  have b := of_sq_lt (x := r) (y := rt N + 1) (by omega) (by omega)
  omega
/-- t ≤ root N, for t from 0 on -/
theorem le_rt {N t : Int} (h : 0 ≤ N) (ht : 0 ≤ t) : t ≤ rt N ↔ t * t ≤ N := by
  obtain ⟨g1, g2⟩ := rt_spec h
  have hn := rt_nn N
  constructor
  · intro c
    have := sq_le ht c
    omega
  · intro c
    have := of_sq_lt (x := t) (y := rt N + 1) (by omega) (by omega)
    omega
theorem rt_lt {N t : Int} (h : 0 ≤ N) (ht : 0 ≤ t) : rt N < t ↔ N < t * t := by
  have := le_rt h ht
  omega
/-! the form -/
def G (b x z : Int) : Int := x * x + b * x * z - z * z
def D (b n : Int) : Int := n * n * (b * b + 4)
theorem D_nn (b n : Int) : 0 ≤ D b n := by
  have h1 : 0 ≤ n * n := by
    by_cases c : 0 ≤ n
    · exact Int.mul_nonneg c c
    · have := Int.mul_nonneg (show 0 ≤ -n by omega) (show 0 ≤ -n by omega)
      rwa [Int.neg_mul_neg] at this
  have h2 : 0 ≤ b * b := by
    by_cases c : 0 ≤ b
    · exact Int.mul_nonneg c c
    · have := Int.mul_nonneg (show 0 ≤ -b by omega) (show 0 ≤ -b by omega)
      rwa [Int.neg_mul_neg] at this
  exact Int.mul_nonneg h1 (by omega)
/-- the root is none of the fractions -/
theorem G_ne_nat (b : Int) (hb : 1 ≤ b) : ∀ (k : Nat) (z : Int), 0 ≤ z → G b ((k : Int) + 1) z ≠ 0 := by
  intro k
  induction k using Nat.strongRecOn with
  | ind k ih =>
    intro z hz h
    unfold G at h
    -- z (z - b m) = m m
    generalize hm : (k : Int) + 1 = m at h
    have hm1 : 1 ≤ m := by omega
    have hw : 0 < z - b * m := by
      by_cases c : 0 < z - b * m
      · exact c
      · have h1 : 0 ≤ z * (b * m - z) := Int.mul_nonneg hz (by omega)
        have h2 : 0 < m * m := Int.mul_pos (by omega) (by omega)
        grind
    have hwm : z - b * m < m := by
      by_cases c : z - b * m < m
      · exact c
      · have h0 : 0 < b * m := Int.mul_pos (by omega) (by omega)
        have h1 : m * m ≤ (z - b * m) * m := Int.mul_le_mul_of_nonneg_right (by omega) (by omega)
        have h2 : 0 < (z - b * m) * (z - m) := Int.mul_pos hw (by omega)
        grind
    refine ih (z - b * m - 1).toNat (by omega) m (by omega) ?_
    have e : (((z - b * m - 1).toNat : Nat) : Int) + 1 = z - b * m := by omega
    rw [e]
    unfold G
    grind
theorem G_ne {b x z : Int} (hb : 1 ≤ b) (hx : 1 ≤ x) (hz : 0 ≤ z) : G b x z ≠ 0 := by
  have := G_ne_nat b hb (x - 1).toNat z hz
  rwa [show (((x - 1).toNat : Nat) : Int) + 1 = x by omega] at this
/-! the pairs -/
def A (b n : Int) : Int := (rt (D b n) - n * (b - 2)) / 2
def B (b n : Int) : Int := A b n + b * n
theorem A_lt {b x z : Int} (hb : 1 ≤ b) (hx : 0 ≤ x) (hz : 0 ≤ z) : A b z < z + x ↔ 0 < G b x z := by
  have h0 := D_nn b z
  have hbz : 0 ≤ b * z := Int.mul_nonneg (by omega) hz
  have h1 := rt_lt h0 (t := b * z + 2 * x) (by omega)
  have e1 : z * (b - 2) = b * z - 2 * z := by grind
  have e2 : (b * z + 2 * x) * (b * z + 2 * x) - D b z = 4 * G b x z := by unfold D G; grind
  unfold A
  rw [e1]
  omega
theorem A_ge {b z : Int} (hb : 1 ≤ b) (hz : 0 ≤ z) : z ≤ A b z := by
  have h := A_lt (x := 0) hb (Int.le_refl 0) hz
  have e : G b 0 z = - (z * z) := by unfold G; grind
  have := Int.mul_nonneg hz hz
  omega
theorem A_zero {b : Int} : A b 0 = 0 := by
  have e : D b 0 = 0 := by unfold D; grind
  have r : rt 0 = 0 := rt_uniq (Int.le_refl 0) (by decide) (by decide)
  unfold A
  rw [e, r]
  simp
/-- 1/2 (2 - b + sqrt ..) is less than 2 -/
theorem A_le {b z : Int} (hb : 1 ≤ b) (hz : 0 ≤ z) : A b z ≤ 2 * z := by
  have h := A_lt (x := z + 1) hb (by omega) hz
  have e : G b (z + 1) z = 2 * z + 1 + b * (z * (z + 1)) := by unfold G; grind
  have := Int.mul_nonneg (show 0 ≤ b by omega) (Int.mul_nonneg hz (show 0 ≤ z + 1 by omega))
  omega
theorem A_step {b n : Int} (hb : 1 ≤ b) (hn : 0 ≤ n) : A b n < A b (n + 1) := by
  have g := A_ge hb hn
  obtain ⟨x, hx⟩ : ∃ x, x = A b n - n := ⟨_, rfl⟩
  have hx0 : 0 ≤ x := by omega
  have h1 := A_lt (x := x) hb hx0 hn
  have h2 := A_lt (x := x) hb hx0 (show 0 ≤ n + 1 by omega)
  have k : G b x n ≤ 0 := by omega
  have key : b * x ≤ 2 * n := by
    by_cases c : b * x ≤ 2 * n
    · exact c
    · exfalso
      unfold G at k
      have c1 : 0 ≤ n * (b * x - 2 * n) := Int.mul_nonneg hn (by omega)
      have c2 : 0 ≤ n * n := Int.mul_nonneg hn hn
      have c3 : 0 ≤ x * x := Int.mul_nonneg hx0 hx0
      have c6 : n * (b * x - 2 * n) = b * x * n - 2 * (n * n) := by grind
      have c4 : x * x = 0 := by omega
      have c5 : x = 0 := by
        rcases Int.mul_eq_zero.mp c4 with h | h <;> exact h
      rw [c5] at c
      omega
  have e : G b x (n + 1) = G b x n + (b * x - 2 * n - 1) := by unfold G; grind
  have : ¬ A b (n + 1) < n + 1 + x := by omega
  omega
theorem A_mono {b n m : Int} (hb : 1 ≤ b) (hn : 0 ≤ n) (h : n < m) : A b n < A b m := by
  have key : ∀ k : Nat, A b n < A b (n + 1 + k) := by
    intro k
    induction k with
    | zero => simpa using A_step hb hn
    | succ k ih =>
      have := A_step hb (show 0 ≤ n + 1 + (k : Int) by omega)
      have e : n + 1 + ((k + 1 : Nat) : Int) = n + 1 + (k : Int) + 1 := by omega
      rw [e]
      omega
  have := key (m - n - 1).toNat
  rwa [show n + 1 + (((m - n - 1).toNat : Nat) : Int) = m by omega] at this
theorem A_le_mono {b n m : Int} (hb : 1 ≤ b) (hn : 0 ≤ n) (h : n ≤ m) : A b n ≤ A b m := by
  rcases Int.lt_or_eq_of_le h with c | c
  · exact Int.le_of_lt (A_mono hb hn c)
  · rw [c]; exact Int.le_refl _
theorem A_lt_iff {b n m : Int} (hb : 1 ≤ b) (hn : 0 ≤ n) (hm : 0 ≤ m) : A b n < A b m ↔ n < m := by
  constructor
  · intro h
    by_cases c : n < m
    · exact c
    · have := A_le_mono hb hm (show m ≤ n by omega)
      omega
  · exact A_mono hb hn
theorem A_inj {b n m : Int} (hb : 1 ≤ b) (hn : 0 ≤ n) (hm : 0 ≤ m) (h : A b n = A b m) : n = m := by
  have h1 := A_lt_iff hb hn hm
  have h2 := A_lt_iff hb hm hn
  omega
theorem mul_mono {b n m : Int} (hb : 1 ≤ b) (h : n < m) : b * n < b * m := Int.mul_lt_mul_of_pos_left h (by omega)
theorem B_mono {b n m : Int} (hb : 1 ≤ b) (hn : 0 ≤ n) (h : n < m) : B b n < B b m := by
  have := A_mono hb hn h
  have := mul_mono hb h
  unfold B
  omega
theorem B_inj {b n m : Int} (hb : 1 ≤ b) (hn : 0 ≤ n) (hm : 0 ≤ m) (h : B b n = B b m) : n = m := by
  rcases Int.lt_trichotomy n m with c | c | c
  · have := B_mono hb hn c; omega
  · exact c
  · have := B_mono hb hm c; omega
theorem B_gt {b n : Int} (hb : 1 ≤ b) (hn : 1 ≤ n) : A b n < B b n := by
  have := Int.mul_pos (show 0 < b by omega) (show 0 < n by omega)
  unfold B
  omega
theorem A_pos {b n : Int} (hb : 1 ≤ b) (hn : 1 ≤ n) : 1 ≤ A b n := by
  have := A_ge hb (show 0 ≤ n by omega)
  omega
/-- y is at most the other number of pair m just if .. -/
theorem dual {b m y : Int} (hb : 1 ≤ b) (hm : 1 ≤ m) (hy : m ≤ y) : y ≤ B b m ↔ A b (y - m) < y := by
  obtain ⟨z, rfl⟩ : ∃ z, y = z + m := ⟨y - m, by omega⟩
  have hz : 0 ≤ z := by omega
  have h1 := A_lt (x := m) (z := z) hb (by omega) hz
  rw [show z + m - m = z by omega]
  have hne := G_ne (z := z) hb hm hz
  have hbm : 0 ≤ b * m := Int.mul_nonneg (by omega) (by omega)
  unfold B
  by_cases c : b * m ≤ z
  · have h2 := A_lt (x := z - b * m) (z := m) hb (by omega) (by omega)
    have e : G b (z - b * m) m = - G b m z := by unfold G; grind
    omega
  · have g := A_ge hb (show 0 ≤ m by omega)
    have p : 0 < G b m z := by
      have e : G b m z = m * m + z * (b * m - z) := by unfold G; grind
      have a1 : 0 < m * m := Int.mul_pos (by omega) (by omega)
      have a2 : 0 ≤ z * (b * m - z) := Int.mul_nonneg hz (by omega)
      omega
    omega
/-! how many lesser numbers stand below e -/
def cnt (b e : Int) : Int := (rt (D b e) + e * (b - 2)) / (2 * b)
theorem rt_ge {b e : Int} (hb : 1 ≤ b) (he : 0 ≤ e) : b * e ≤ rt (D b e) := by
  have hbe : 0 ≤ b * e := Int.mul_nonneg (by omega) he
  rw [le_rt (D_nn b e) hbe]
  have e1 : D b e = (b * e) * (b * e) + 4 * (e * e) := by unfold D; grind
  have := Int.mul_nonneg he he
  omega
theorem cnt_nn {b e : Int} (hb : 1 ≤ b) (he : 0 ≤ e) : 0 ≤ cnt b e := by
  have h := rt_ge hb he
  have h2 : e * (b - 2) = b * e - 2 * e := by grind
  have h3 : e ≤ b * e := by
    have := Int.mul_le_mul_of_nonneg_right hb he
    omega
  unfold cnt
  refine Int.ediv_nonneg ?_ (by omega)
  omega
theorem cnt_spec {b e : Int} (hb : 1 ≤ b) (he : 1 ≤ e) : A b (cnt b e) < e ∧ e ≤ A b (cnt b e + 1) := by
  have hm := cnt_nn hb (show 0 ≤ e by omega)
  have d1 : 2 * b * cnt b e ≤ rt (D b e) + e * (b - 2) := Int.mul_ediv_self_le (by omega)
  have d2 : rt (D b e) + e * (b - 2) < 2 * b * cnt b e + 2 * b := Int.lt_mul_ediv_self_add (by omega)
  generalize cnt b e = m at *
  have hD := D_nn b e
  have hbe : e ≤ b * e := by
    have := Int.mul_le_mul_of_nonneg_right hb (show 0 ≤ e by omega)
    omega
  have hee : 0 < e * e := Int.mul_pos (by omega) (by omega)
  -- m below e
  have hme : m < e ∧ 0 < G b (e - m) m := by
    by_cases c : 0 ≤ 2 * b * m - e * (b - 2)
    · have k := (le_rt hD c).mp (by omega)
      have e1 : (2 * b * m - e * (b - 2)) * (2 * b * m - e * (b - 2)) - D b e = - (4 * (b * G b (e - m) m)) := by unfold D G; grind
      have p : 0 ≤ b * G b (e - m) m := by omega
      have q : 0 ≤ G b (e - m) m := by
        by_cases c2 : 0 ≤ G b (e - m) m
        · exact c2
        · have := Int.mul_pos (show 0 < b by omega) (show 0 < - G b (e - m) m by omega)
          rw [Int.mul_neg] at this
          omega
      have l : m < e := by
        by_cases c3 : m < e
        · exact c3
        · exfalso
          have e2 : G b (e - m) m = (e - m) * (e - m) + b * (e - m) * m - m * m := rfl
          have e3 : (e - m) * (e - m) - m * m = - (e * (2 * m - e)) := by grind
          have e4 : 0 < e * (2 * m - e) := Int.mul_pos (by omega) (by omega)
          have e5 : 0 ≤ b * (m - e) * m := Int.mul_nonneg (Int.mul_nonneg (by omega) (by omega)) hm
          have e6 : b * (e - m) * m = - (b * (m - e) * m) := by grind
          omega
      refine ⟨l, ?_⟩
      have := G_ne (x := e - m) (z := m) hb (by omega) hm
      omega
    · have l : m < e := by
        by_cases c3 : m < e
        · exact c3
        · exfalso
          have : 0 ≤ b * (m - e) := Int.mul_nonneg (by omega) (by omega)
          have e6 : 2 * b * m - e * (b - 2) = 2 * (b * (m - e)) + b * e + 2 * e := by grind
          omega
      refine ⟨l, ?_⟩
      have e2 : G b (e - m) m = e * e + m * (e * (b - 2) - 2 * b * m) + b * (m * m) := by unfold G; grind
      have a1 : 0 ≤ m * (e * (b - 2) - 2 * b * m) := Int.mul_nonneg hm (by omega)
      have a2 : 0 ≤ b * (m * m) := Int.mul_nonneg (by omega) (Int.mul_nonneg hm hm)
      omega
  obtain ⟨hl, hG⟩ := hme
  constructor
  · have := (A_lt (x := e - m) (z := m) hb (by omega) hm).mpr hG
    omega
  · -- not below
    have w0 : 0 ≤ 2 * b * (m + 1) - e * (b - 2) ∧ D b e < (2 * b * (m + 1) - e * (b - 2)) * (2 * b * (m + 1) - e * (b - 2)) := by
      have e1 : 2 * b * (m + 1) = 2 * b * m + 2 * b := by grind
      have r0 := rt_nn (D b e)
      have c : 0 ≤ 2 * b * (m + 1) - e * (b - 2) := by omega
      exact ⟨c, (rt_lt hD c).mp (by omega)⟩
    obtain ⟨c, k⟩ := w0
    have e1 : (2 * b * (m + 1) - e * (b - 2)) * (2 * b * (m + 1) - e * (b - 2)) - D b e = - (4 * (b * G b (e - (m + 1)) (m + 1))) := by unfold D G; grind
    have p : b * G b (e - (m + 1)) (m + 1) < 0 := by omega
    have q : G b (e - (m + 1)) (m + 1) < 0 := by
      by_cases c2 : 0 ≤ G b (e - (m + 1)) (m + 1)
      · have := Int.mul_nonneg (show 0 ≤ b by omega) c2
        omega
      · omega
    have := (A_lt (x := e - (m + 1)) (z := m + 1) hb (by omega) (by omega))
    omega
/-! in which pair a number is -/
def pw (b k : Int) : Int := if A b (cnt b (k + 1)) = k then cnt b (k + 1) else k - cnt b (k + 1)
theorem pw_spec {b k : Int} (hb : 1 ≤ b) (hk : 1 ≤ k) : 1 ≤ pw b k ∧ pw b k ≤ k ∧ (A b (pw b k) = k ∨ B b (pw b k) = k) := by
  have hm := cnt_nn hb (show 0 ≤ k + 1 by omega)
  obtain ⟨h1, h2⟩ := cnt_spec hb (show 1 ≤ k + 1 by omega)
  have g := A_ge hb hm
  unfold pw
  generalize cnt b (k + 1) = m at *
  split
  · rename_i c
    refine ⟨?_, by omega, Or.inl c⟩
    by_cases z : m = 0
    · rw [z, A_zero] at c
      omega
    · omega
  · rename_i c
    refine ⟨by omega, by omega, Or.inr ?_⟩
    have n1 : 1 ≤ k - m := by omega
    have d1 := dual (m := k - m) (y := k) hb n1 (by omega)
    have d2 := dual (m := k - m) (y := k + 1) hb n1 (by omega)
    rw [show k - (k - m) = m by omega] at d1
    rw [show k + 1 - (k - m) = m + 1 by omega] at d2
    omega
theorem A_ne_B {b n m : Int} (hb : 1 ≤ b) (hn : 1 ≤ n) (hm : 1 ≤ m) : A b n ≠ B b m := by
  intro h
  have gm := A_ge hb (show 0 ≤ m by omega)
  have gB := B_gt hb hm
  have d1 := (dual (m := m) (y := B b m) hb hm (by omega)).mp (Int.le_refl _)
  have d2 := dual (m := m) (y := B b m + 1) hb hm (by omega)
  have k1 : A b (B b m - m) < A b n := by omega
  have k2 : A b n < A b (B b m + 1 - m) := by omega
  have l1 := (A_lt_iff hb (by omega) (by omega)).mp k1
  have l2 := (A_lt_iff hb (by omega) (by omega)).mp k2
  omega
theorem pw_A {b n : Int} (hb : 1 ≤ b) (hn : 1 ≤ n) : pw b (A b n) = n := by
  obtain ⟨h1, h2, h3⟩ := pw_spec hb (A_pos hb hn)
  rcases h3 with h | h
  · exact A_inj hb (by omega) (by omega) h
  · exact absurd h.symm (A_ne_B hb hn h1)
theorem pw_B {b n : Int} (hb : 1 ≤ b) (hn : 1 ≤ n) : pw b (B b n) = n := by
  have p : 1 ≤ B b n := by
    have := B_gt hb hn
    have := A_pos hb hn
    omega
  obtain ⟨h1, h2, h3⟩ := pw_spec hb p
  rcases h3 with h | h
  · exact absurd h (A_ne_B hb h1 hn)
  · exact B_inj hb (by omega) (by omega) h
/-! the root from above, each time halfway -/
theorem newton_ge {N x r : Int} (h : r * r ≤ N) (hx : 1 ≤ x) : r ≤ (x + N / x) / 2 := by
  have h1 : (2 * r - x) * x ≤ N := by
    have e : (2 * r - x) * x = r * r - (r - x) * (r - x) := by grind
    have s : 0 ≤ (r - x) * (r - x) := by
      by_cases c : 0 ≤ r - x
      · exact Int.mul_nonneg c c
      · have := Int.mul_nonneg (show 0 ≤ -(r - x) by omega) (show 0 ≤ -(r - x) by omega)
        rwa [Int.neg_mul_neg] at this
    omega
  have h2 : 2 * r - x ≤ N / x := (Int.le_ediv_iff_mul_le (by omega)).mpr h1
  omega
theorem newton_lt {N x : Int} (h : N < x * x) (hx : 1 ≤ x) (h0 : 0 ≤ N) : 0 ≤ (x + N / x) / 2 ∧ (x + N / x) / 2 < x := by
  have h1 : N / x < x := Int.ediv_lt_of_lt_mul (by omega) h
  have h2 : 0 ≤ N / x := Int.ediv_nonneg h0 (by omega)
  omega
theorem rt_le {N : Int} (h : 0 ≤ N) : rt N ≤ N := by
  obtain ⟨h1, h2⟩ := rt_spec h
  have hn := rt_nn N
  by_cases c : rt N = 0
  · omega
  · have := Int.mul_le_mul_of_nonneg_right (show 1 ≤ rt N by omega) hn
    omega
theorem rt_eq {N x : Int} (h : 0 ≤ N) (hx : rt N ≤ x) (hs : x * x ≤ N) : x = rt N := by
  have hn := rt_nn N
  have := (le_rt h (show 0 ≤ x by omega)).mpr hs
  omega
theorem law_least (b n : Int) : (n * (2 - b) + rt (D b n)) / 2 = A b n := by
  have e : n * (2 - b) = - (n * (b - 2)) := by grind
  unfold A
  rw [e]
  congr 1
  omega
/-- what is in no pair ahead of n, and not above its lesser number, is that number -/
theorem first_free {b n k : Int} (hb : 1 ≤ b) (hn : 1 ≤ n) (hk : 1 ≤ k) (hle : k ≤ A b n) (h : ∀ m, 1 ≤ m → m < n → k ≠ A b m ∧ k ≠ B b m) : k = A b n := by
  obtain ⟨h1, h2, h3⟩ := pw_spec hb hk
  generalize pw b k = m at *
  have hm : n ≤ m := by
    by_cases c : m < n
    · have := h m h1 c
      omega
    · omega
  have g := A_le_mono hb (show 0 ≤ n by omega) hm
  have g2 := B_gt hb h1
  omega
/-- a number that is in a pair ahead is not the lesser number of this one -/
theorem ahead_ne {b n k m : Int} (hb : 1 ≤ b) (h1 : 1 ≤ m) (h2 : m < n) (h : k = A b m ∨ k = B b m) : k ≠ A b n := by
  rcases h with h | h
  · have := A_mono hb (show 0 ≤ m by omega) h2
    omega
  · intro e
    exact A_ne_B hb (show 1 ≤ n by omega) h1 (e.symm.trans h)
theorem B_le {b n : Int} (hb : 1 ≤ b) (hn : 0 ≤ n) : B b n ≤ (b + 2) * n := by
  have := A_le hb hn
  have e : (b + 2) * n = b * n + 2 * n := by grind
  unfold B
  omega
theorem B_ge {b n : Int} (hb : 1 ≤ b) (hn : 0 ≤ n) : 0 ≤ B b n := by
  have := A_ge hb hn
  have := Int.mul_nonneg (show 0 ≤ b by omega) hn
  unfold B
  omega
theorem A_one {b : Int} (hb : 1 ≤ b) : A b 1 = 1 := by
  have g := A_ge hb (show (0 : Int) ≤ 1 by decide)
  have h := A_lt (b := b) (x := 1) (z := 1) hb (by decide) (by decide)
  have e : G b 1 1 = b := by unfold G; grind
  omega
/-! the game -/
def ab (i : Int) : Int := if i < 0 then -i else i
theorem ab_def (i : Int) : (ab i = i ∧ 0 ≤ i) ∨ (ab i = -i ∧ i < 0) := by
  unfold ab
  split <;> omega
/-- the number of the lost pair that two heaps are -/
def nof (b h0 h1 : Int) : Option Int :=
  if A b (ab (h0 - h1) / b) = min h0 h1 ∧ B b (ab (h0 - h1) / b) = max h0 h1 then some (ab (h0 - h1) / b) else none
def Lo (b h0 h1 : Int) : Prop := ∃ n, 0 ≤ n ∧ ((h0 = A b n ∧ h1 = B b n) ∨ (h0 = B b n ∧ h1 = A b n))
theorem A_le_B {b n : Int} (hb : 1 ≤ b) (hn : 0 ≤ n) : A b n ≤ B b n := by
  have := Int.mul_nonneg (show 0 ≤ b by omega) hn
  unfold B
  omega
theorem ab_nn (i : Int) : 0 ≤ ab i := by
  rcases ab_def i with h | h <;> omega
theorem apart {b h0 h1 n : Int} (hb : 1 ≤ b) (hn : 0 ≤ n) (h1' : A b n = min h0 h1) (h2 : B b n = max h0 h1) : ab (h0 - h1) = b * n := by
  unfold B at h2
  rcases ab_def (h0 - h1) with h | h <;> omega
theorem nof_of {b h0 h1 n : Int} (hb : 1 ≤ b) (hn : 0 ≤ n) (h : A b n = min h0 h1) (h' : B b n = max h0 h1) : nof b h0 h1 = some n := by
  have e : ab (h0 - h1) / b = n := by
    rw [apart hb hn h h', Int.mul_ediv_cancel_left _ (by omega)]
  unfold nof
  rw [e, if_pos ⟨h, h'⟩]
theorem nof_some {b h0 h1 n : Int} (hb : 1 ≤ b) (h : nof b h0 h1 = some n) : 0 ≤ n ∧ A b n = min h0 h1 ∧ B b n = max h0 h1 := by
  unfold nof at h
  split at h
  · rename_i c
    have e := Option.some.inj h
    rw [e] at c
    have : 0 ≤ ab (h0 - h1) / b := Int.ediv_nonneg (ab_nn _) (by omega)
    exact ⟨by omega, c⟩
  · cases h
theorem nof_lo {b h0 h1 : Int} (hb : 1 ≤ b) : (nof b h0 h1).isSome = true ↔ Lo b h0 h1 := by
  constructor
  · intro h
    cases e : nof b h0 h1 with
    | none => rw [e] at h; cases h
    | some n =>
      obtain ⟨h0', h1', h2'⟩ := nof_some hb e
      refine ⟨n, h0', ?_⟩
      omega
  · rintro ⟨n, hn, h⟩
    have := A_le_B hb hn
    rw [nof_of hb hn (by omega) (by omega)]
    rfl
theorem lo_swap {b h0 h1 : Int} (h : Lo b h0 h1) : Lo b h1 h0 := by
  obtain ⟨n, hn, h⟩ := h
  exact ⟨n, hn, by omega⟩
/-- a taking of these heaps -/
def may (b h0 h1 t0 t1 : Int) : Prop := 0 ≤ t0 ∧ 0 ≤ t1 ∧ ¬ (t0 = 0 ∧ t1 = 0) ∧ t0 ≤ h0 ∧ t1 ≤ h1 ∧ (t0 = 0 ∨ t1 = 0 ∨ ab (t0 - t1) < b)
instance {b h0 h1 t0 t1 : Int} : Decidable (may b h0 h1 t0 t1) := by unfold may; infer_instance
theorem may_swap {b h0 h1 t0 t1 : Int} (h : may b h0 h1 t0 t1) : may b h1 h0 t1 t0 := by
  unfold may at *
  have e : ab (t1 - t0) = ab (t0 - t1) := by
    rcases ab_def (t1 - t0) with h | h <;> rcases ab_def (t0 - t1) with h' | h' <;> omega
  rw [e]
  omega
theorem A_eq_B {b n m : Int} (hb : 1 ≤ b) (hn : 0 ≤ n) (hm : 0 ≤ m) (h : A b n = B b m) : n = 0 ∧ m = 0 := by
  by_cases n0 : n = 0
  · subst n0
    rw [A_zero] at h
    by_cases m0 : m = 0
    · exact ⟨rfl, m0⟩
    · have := A_pos hb (show 1 ≤ m by omega)
      have := A_le_B hb hm
      omega
  · by_cases m0 : m = 0
    · subst m0
      have e : B b 0 = 0 := by unfold B; rw [A_zero]; simp
      have := A_pos hb (show 1 ≤ n by omega)
      omega
    · exact absurd h (A_ne_B hb (by omega) (by omega))
/-- of a lost pair no taking leaves a lost pair -/
theorem lost_no {b h0 h1 t0 t1 : Int} (hb : 1 ≤ b) (h : Lo b h0 h1) (hm : may b h0 h1 t0 t1) : ¬ Lo b (h0 - t0) (h1 - t1) := by
  -- the lesser heap first
  have key : ∀ h0 h1 t0 t1 n : Int, 0 ≤ n → h0 = A b n → h1 = B b n → may b h0 h1 t0 t1 → ¬ Lo b (h0 - t0) (h1 - t1) := by
    intro h0 h1 t0 t1 n hn e0 e1 hm hl
    obtain ⟨m, hmn, hl⟩ := hl
    obtain ⟨u0, u1, u2, u3, u4, u5⟩ := hm
    have d1 : B b n = A b n + b * n := rfl
    have d2 : B b m = A b m + b * m := rfl
    rcases hl with ⟨l0, l1⟩ | ⟨l0, l1⟩
    · rcases Int.lt_trichotomy n m with c | c | c
      · have := A_mono hb hn c
        omega
      · subst c
        omega
      · have a1 := A_mono hb hmn c
        have a2 := B_mono hb hmn c
        have a3 : b * n = b * m + b * (n - m) := by grind
        have a4 : b * 1 ≤ b * (n - m) := Int.mul_le_mul_of_nonneg_left (by omega) (by omega)
        rcases ab_def (t0 - t1) with h | h <;> omega
    · have z0 : t0 ≠ 0 := fun z => by
        have := A_eq_B hb hn hmn (by omega)
        obtain ⟨rfl, rfl⟩ := this
        simp only [Int.mul_zero] at d1
        omega
      have z1 : t1 ≠ 0 := fun z => by
        have := A_eq_B hb hmn hn (by omega)
        obtain ⟨rfl, rfl⟩ := this
        simp only [Int.mul_zero] at d1
        omega
      have n1 : 1 ≤ n := by
        by_cases c : n = 0
        · subst c
          rw [A_zero] at e0
          omega
        · omega
      have a4 : b * 1 ≤ b * n := Int.mul_le_mul_of_nonneg_left (by omega) (by omega)
      have a5 : 0 ≤ b * m := Int.mul_nonneg (by omega) hmn
      rcases ab_def (t0 - t1) with h | h <;> omega
  obtain ⟨n, hn, h⟩ := h
  rcases h with ⟨e0, e1⟩ | ⟨e0, e1⟩
  · exact key h0 h1 t0 t1 n hn e0 e1 hm
  · exact fun hl => key h1 h0 t1 t0 n hn e1 e0 (may_swap hm) (lo_swap hl)
/-- what to leave -/
def aim (b l g : Int) : Int × Int :=
  if l = 0 then (0, 0) else if l = B b (pw b l) then (B b (pw b l), A b (pw b l)) else if B b (pw b l) < g then (A b (pw b l), B b (pw b l)) else (A b ((g - l) / b), B b ((g - l) / b))
theorem aim_spec {b l g : Int} (hb : 1 ≤ b) (hl : 0 ≤ l) (hg : l ≤ g) (h : ¬ Lo b l g) :
    Lo b (aim b l g).1 (aim b l g).2 ∧ may b l g (l - (aim b l g).1) (g - (aim b l g).2) := by
  unfold aim
  split
  · rename_i c
    subst c
    refine ⟨⟨0, by decide, .inl ⟨A_zero.symm, by unfold B; rw [A_zero]; simp⟩⟩, ?_⟩
    have g0 : g ≠ 0 := fun z => h ⟨0, by decide, .inl ⟨A_zero.symm, by rw [z]; unfold B; rw [A_zero]; simp⟩⟩
    unfold may
    omega
  · rename_i c
    obtain ⟨p1, p2, p3⟩ := pw_spec hb (show 1 ≤ l by omega)
    have pA := A_pos hb p1
    have pB := B_gt hb p1
    generalize pw b l = n at *
    split
    · rename_i c1
      refine ⟨⟨n, by omega, .inr ⟨rfl, rfl⟩⟩, ?_⟩
      unfold may
      omega
    · rename_i c1
      have lA : A b n = l := by omega
      split
      · rename_i c2
        refine ⟨⟨n, by omega, .inl ⟨rfl, rfl⟩⟩, ?_⟩
        unfold may
        omega
      · rename_i c2
        have gB : g ≠ B b n := fun z => h ⟨n, by omega, .inl ⟨lA.symm, z⟩⟩
        have d1 : B b n = A b n + b * n := rfl
        have j0 : 0 ≤ (g - l) / b := Int.ediv_nonneg (by omega) (by omega)
        have m0 := Int.emod_nonneg (g - l) (show b ≠ 0 by omega)
        have m1 := Int.emod_lt_of_pos (g - l) (show 0 < b by omega)
        have m2 := Int.mul_ediv_add_emod (g - l) b
        have jn : (g - l) / b < n := by
          have : (g - l) < b * n := by omega
          exact Int.ediv_lt_of_lt_mul (by omega) (by rw [Int.mul_comm]; exact this)
        generalize (g - l) % b = r at *
        generalize (g - l) / b = j at *
        have a1 := A_mono hb j0 jn
        have d2 : B b j = A b j + b * j := rfl
        refine ⟨⟨j, j0, .inl ⟨rfl, rfl⟩⟩, ?_⟩
        show may b l g (l - A b j) (g - B b j)
        have gA := A_ge hb j0
        have gj := Int.mul_nonneg (show 0 ≤ b by omega) j0
        unfold may
        have ea : ab (l - A b j - (g - B b j)) < b := by
          rcases ab_def (l - A b j - (g - B b j)) with h | h <;> omega
        omega
/-- the taking that is told -/
def win (b h0 h1 : Int) : Int × Int :=
  if h0 ≤ h1 then (h0 - (aim b h0 h1).1, h1 - (aim b h0 h1).2) else (h0 - (aim b h1 h0).2, h1 - (aim b h1 h0).1)
theorem win_spec {b h0 h1 : Int} (hb : 1 ≤ b) (p0 : 0 ≤ h0) (p1 : 0 ≤ h1) (h : ¬ Lo b h0 h1) :
    may b h0 h1 (win b h0 h1).1 (win b h0 h1).2 ∧ Lo b (h0 - (win b h0 h1).1) (h1 - (win b h0 h1).2) := by
  unfold win
  split
  · rename_i c
    obtain ⟨a, m⟩ := aim_spec hb p0 c h
    refine ⟨m, ?_⟩
    show Lo b (h0 - (h0 - (aim b h0 h1).1)) (h1 - (h1 - (aim b h0 h1).2))
    rw [show h0 - (h0 - (aim b h0 h1).1) = (aim b h0 h1).1 by omega, show h1 - (h1 - (aim b h0 h1).2) = (aim b h0 h1).2 by omega]
    exact a
  · rename_i c
    obtain ⟨a, m⟩ := aim_spec hb p1 (show h1 ≤ h0 by omega) (fun z => h (lo_swap z))
    refine ⟨may_swap m, ?_⟩
    show Lo b (h0 - (h0 - (aim b h1 h0).2)) (h1 - (h1 - (aim b h1 h0).1))
    rw [show h0 - (h0 - (aim b h1 h0).2) = (aim b h1 h0).2 by omega, show h1 - (h1 - (aim b h1 h0).1) = (aim b h1 h0).1 by omega]
    exact lo_swap a
end Th
/-! rules of one's own over the layer -/
namespace TH
open PySem PySem.Spec PyProof.Rows L2
/-- small: within n bits -/
def Sm (n : Nat) (i : Int) : Prop := i.natAbs < 2 ^ n
theorem sm_mono {a b : Nat} {i : Int} (h : Sm a i) (hb : a ≤ b) : Sm b i := Nat.lt_of_lt_of_le h (Nat.pow_le_pow_right (by decide) hb)
theorem sm_mul {a b : Nat} {i j : Int} (h : Sm a i) (h' : Sm b j) : Sm (a + b) (i * j) := wide_lt h h'
theorem sm_add {a : Nat} {i j : Int} (h : Sm a i) (h' : Sm a j) : Sm (a + 1) (i + j) := by
  unfold Sm at *
  rw [Nat.pow_succ]
  omega
theorem sm_sub {a : Nat} {i j : Int} (h : Sm a i) (h' : Sm a j) : Sm (a + 1) (i - j) := by
  unfold Sm at *
  rw [Nat.pow_succ]
  omega
theorem sm_neg {a : Nat} {i : Int} (h : Sm a i) : Sm a (-i) := by
  unfold Sm at *
  omega
theorem sm_le {a : Nat} {i j : Int} (h : Sm a j) (h0 : 0 ≤ i) (h1 : i ≤ j) : Sm a i := by
  unfold Sm at *
  omega
theorem sm_abs {a : Nat} {i j : Int} (h : Sm a j) (h1 : i.natAbs ≤ j.natAbs) : Sm a i := by
  unfold Sm at *
  omega
theorem sm_lit {a : Nat} {i : Int} (h : i.natAbs < 2 ^ a) : Sm a i := h
theorem mulx {a b : Nat} {i j : Int} (h : Sm a i) (h' : Sm b j) (hab : a + b ≤ 134217728 := by decide) : CMulX i j := mulx_ok h h' hab
theorem divw {b : Nat} {i j : Int} (hj : 0 < j) (h : Sm b j) (h0 : 0 < b := by decide) (h9 : b ≤ 9000 := by decide) : CDivW i j := wide_div hj h h0 h9
theorem ifT {c : Bool} {A B : Prop} (hc : c = true) (h : A) : if c = true then A else B := by
  rw [if_pos hc]
  exact h
theorem ifF {c : Bool} {A B : Prop} (hc : c = false) (h : B) : if c = true then A else B := by
  rw [hc, if_neg Bool.false_ne_true]
  exact h
theorem if2 {c : Bool} {A B : Prop} (h1 : c = true → A) (h2 : c = false → B) : if c = true then A else B := by
  cases c with
  | true => exact ifT rfl (h1 rfl)
  | false => exact ifF rfl (h2 rfl)
theorem nd {p : Prop} [Decidable p] (h : p) : (!decide p) = false := by simp [h]
theorem nd1 {p : Prop} [Decidable p] (h : ¬ p) : (!decide p) = true := by simp [h]
theorem bt {Q : VK} {c : Bool} {H : Hp} (h : c = true) (q : Q (.bl true) H) : Q (.bl c) H := by rw [h]; exact q
theorem bf {Q : VK} {c : Bool} {H : Hp} (h : c = false) (q : Q (.bl false) H) : Q (.bl c) H := by rw [h]; exact q
theorem bq {Q : VK} {c d : Bool} {H : Hp} (h : c = d) (q : Q (.bl d) H) : Q (.bl c) H := by rw [h]; exact q
/-! isqrt -/
theorem isqrt_rt {N : Int} (h : 0 ≤ N) : ((Float64.isqrt N.toNat : Nat) : Int) = Th.rt N := by
  obtain ⟨h1, h2⟩ := Float64.isqrt_spec N.toNat
  have e : ((N.toNat : Nat) : Int) = N := Int.toNat_of_nonneg h
  have h1' := Int.ofNat_le.mpr h1
  have h2' := Int.ofNat_lt.mpr h2
  rw [e] at h1' h2'
  push_cast at h1' h2'
  exact (Th.rt_uniq (Int.natCast_nonneg _) h1' h2').symm
def rIsqrt : List V → Hp → VK → Prop := fun vs H Q => ∃ n : Int, vs = [.int n] ∧ 0 ≤ n ∧ Sm 13000 n ∧ Q (.int (Th.rt n)) H
theorem cr_isqrt {X : Cx} : CallR X (.builtin "math.isqrt") rIsqrt := by
  intro pins s σ H vs us Q I r h
  obtain ⟨n, rfl, h0, hs, q⟩ := h
  cases r with
  | cons ra rr =>
    cases rr
    obtain ⟨t, rfl⟩ := ra
    have hl : n.toNat.log2 < 13000 := by
      have e : n.toNat = n.natAbs := by omega
      rw [e]
      exact PySem.Flt.log2_lt_of (by decide) hs
    rw [← isqrt_rt h0] at q
    exact call_function_meets PySem.W.MGF.kind_isqrt PySem.W.MGF.plain_isqrt PySem.W.MGF.entry_isqrt (PySem.W.MGF.args_isqrt _) (PySem.W.mg_run_isqrt n t (by omega) (by omega) (by omega)).meets ⟨.int _, H, I.tok _, ⟨_, rfl⟩, q⟩
/-! min, max of a tuple of two ints -/
def rMinT : List V → Hp → VK → Prop := fun vs H Q => ∃ (a : Addr) (i j : Int), vs = [.ref a] ∧ H a = some (.tup [.int i, .int j]) ∧ Q (.int (min i j)) H
def rMaxT : List V → Hp → VK → Prop := fun vs H Q => ∃ (a : Addr) (i j : Int), vs = [.ref a] ∧ H a = some (.tup [.int i, .int j]) ∧ Q (.int (max i j)) H
theorem two_alike (i j : Int) : PySem.W.AlikeAll [.int i, .int j] := by
  refine ⟨fun x hx y hy => ?_, fun x hx => ?_⟩
  · rcases List.mem_cons.mp hx with rfl | hx
    · rcases List.mem_cons.mp hy with rfl | hy
      · rfl
      · rw [List.mem_singleton.mp hy]; rfl
    · rw [List.mem_singleton.mp hx]
      rcases List.mem_cons.mp hy with rfl | hy
      · rfl
      · rw [List.mem_singleton.mp hy]; rfl
  · rcases List.mem_cons.mp hx with rfl | hx
    · exact fun z => nomatch z
    · rw [List.mem_singleton.mp hx]; exact fun z => nomatch z
theorem cr_minT {X : Cx} (hc : X.calm = true) (hu : X.A.units + 64 < cLine) : CallR X (.builtin "min") rMinT := by
  intro pins s σ H vs us Q I r h
  obtain ⟨a, i, j, rfl, ha, q⟩ := h
  obtain ⟨its, rv, ht, _⟩ := I.tuple (SqT.of (K := X.K) ha)
  rw [Vals.ref1 r]
  cases rv with
  | cons r1 rr =>
    cases rr with
    | cons r2 rr =>
      cases rr
      obtain ⟨t1, rfl⟩ := r1
      obtain ⟨t2, rfl⟩ := r2
      refine PySem.W.min_tuple_data (x := .int i) (xs := [.int j]) (as := []) (I.ok.hd hc) ht (.cons (.int i t1) (.cons (.int j t2) .nil)) (two_alike i j) ?_ fun k v h' tk bs hv hr hk => ?_
      · have : PyData.depthAll [PyData.int i, PyData.int j] ≤ 1 := by
          simp [PyData.depthAll, PyData.depth]
        omega
      · rw [show [PyData.int j] = [j].map PyData.int from rfl, PySem.W.minD_ints] at hr
        cases hr
        exact ⟨.int _, H, I.kept hk, ⟨_, rfl⟩, q⟩
theorem cr_maxT {X : Cx} (hc : X.calm = true) (hu : X.A.units + 64 < cLine) : CallR X (.builtin "max") rMaxT := by
  intro pins s σ H vs us Q I r h
  obtain ⟨a, i, j, rfl, ha, q⟩ := h
  obtain ⟨its, rv, ht, _⟩ := I.tuple (SqT.of (K := X.K) ha)
  rw [Vals.ref1 r]
  cases rv with
  | cons r1 rr =>
    cases rr with
    | cons r2 rr =>
      cases rr
      obtain ⟨t1, rfl⟩ := r1
      obtain ⟨t2, rfl⟩ := r2
      refine PySem.W.max_tuple_data (x := .int i) (xs := [.int j]) (as := []) (I.ok.hd hc) ht (.cons (.int i t1) (.cons (.int j t2) .nil)) (two_alike i j) ?_ fun k v h' tk bs hv hr hk => ?_
      · have : PyData.depthAll [PyData.int i, PyData.int j] ≤ 1 := by
          simp [PyData.depthAll, PyData.depth]
        omega
      · rw [show [PyData.int j] = [j].map PyData.int from rfl, PySem.W.maxD_ints] at hr
        cases hr
        exact ⟨.int _, H, I.kept hk, ⟨_, rfl⟩, q⟩
/-! == of two pairs of ints -/
def rEqP : R2 := fun x y H Q => ∃ (a b : Addr) (i j k l : Int), x = .ref a ∧ y = .ref b ∧ H a = some (.tup [.int i, .int j]) ∧ H b = some (.tup [.int k, .int l]) ∧ Q (.bl (decide (i = k ∧ j = l))) H
def rNeP : R2 := fun x y H Q => ∃ (a b : Addr) (i j k l : Int), x = .ref a ∧ y = .ref b ∧ H a = some (.tup [.int i, .int j]) ∧ H b = some (.tup [.int k, .int l]) ∧ Q (.bl (!decide (i = k ∧ j = l))) H
theorem pair_eqv (i j k l : Int) : PyData.eqv (.tuple [.int i, .int j]) (.tuple [.int k, .int l]) = decide (i = k ∧ j = l) := by
  simp [PyData.eqv, PyData.eqvAll]
  rfl
theorem pair_dp {K : PySem.W.Frag} {H : Hp} {a : Addr} {i j : Int} (h : H a = some (.tup [.int i, .int j])) : Dp K H (.ref a) (.tuple [.int i, .int j]) := .tup (SqT.of h) (.cons (.int i) (.cons (.int j) .nil))
theorem pair_sh (i j : Int) : SeqAt.shaped (.tuple [.int i, .int j]) = true := by
  unfold SeqAt.shaped
  simp [PyData.canLay0, PyData.canLayAll0, PyData.depth, PyData.depthAll]
theorem op_eqP {X : Cx} (hu : X.A.units + 64 < cLine) : OpR X (compareOp .Eq) rEqP := by
  intro pins s σ H x y v u Q I rx ry h
  obtain ⟨a, b, i, j, k, l, rfl, rfl, ha, hb, q⟩ := h
  exact op_eqD hu pins s σ H _ _ v u Q I rx ry ⟨_, _, pair_dp ha, pair_dp hb, pair_sh i j, pair_sh k l, by rw [pair_eqv]; exact q⟩
theorem op_neP {X : Cx} (hu : X.A.units + 64 < cLine) : OpR X (compareOp .NotEq) rNeP := by
  intro pins s σ H x y v u Q I rx ry h
  obtain ⟨a, b, i, j, k, l, rfl, rfl, ha, hb, q⟩ := h
  exact op_neD hu pins s σ H _ _ v u Q I rx ry ⟨_, _, pair_dp ha, pair_dp hb, pair_sh i j, pair_sh k l, by rw [pair_eqv]; exact q⟩
/-! a place of a pair -/
theorem at0 {i j : V} : atI [i, j] 0 = some i := rfl
theorem at1 {i j : V} : atI [i, j] 1 = some j := rfl
/-! isinstance by a built-in class -/
def rIsB : List V → Hp → VK → Prop := fun vs H Q => ∃ (x : V) (S T : String) (b : Bool), vs = [x, .ty T] ∧
  ((∃ i, x = .int i) ∧ S = "int" ∨ (∃ c, x = .bl c) ∧ S = "bool" ∨ (∃ p xs, x = .ref p ∧ H p = some (.tup xs)) ∧ S = "tuple") ∧ kitB S T = some b ∧ Q (.bl b) H
theorem cr_isB {X : Cx} : CallR X (.builtin "isinstance") rIsB := by
  intro pins s σ H vs us Q I r h
  obtain ⟨x, S, T, b, rfl, hx, hk, q⟩ := h
  refine call_isi pins s σ H _ us Q I r ⟨x, .ty T, .type S, .type T, b, rfl, .ty T, ?_, kit_ty hk, q⟩
  rcases hx with ⟨⟨i, rfl⟩, rfl⟩ | ⟨⟨c, rfl⟩, rfl⟩ | ⟨⟨p, xs, rfl, hp⟩, rfl⟩
  · exact .base (.int i)
  · exact .base (.bl c)
  · exact .base (.tup hp)
theorem kb_ii : kitB "int" "int" = some true := by decide +kernel
theorem kb_ib : kitB "int" "bool" = some false := by decide +kernel
theorem kb_bb : kitB "bool" "bool" = some true := by decide +kernel
theorem kb_tt : kitB "tuple" "tuple" = some true := by decide +kernel
/-! places, cells -/
theorem at_in {xs : List V} {i : Int} (h0 : 0 ≤ i) (h : i < xs.length) : ∃ v, atI xs i = some v ∧ v ∈ xs := by
  obtain ⟨j, rfl⟩ : ∃ j : Nat, i = j := ⟨i.toNat, by omega⟩
  have hj : j < xs.length := by omega
  exact ⟨xs[j], atI_nat (List.getElem?_eq_getElem hj), List.getElem_mem hj⟩
theorem at_cell {ns : List Int} {k : Int} (h0 : 0 ≤ k) (h : k < (ns.map V.int).length) : atI (ns.map V.int) k = some (.int (ns.getD k.toNat 0)) := by
  obtain ⟨j, rfl⟩ : ∃ j : Nat, k = j := ⟨k.toNat, by omega⟩
  rw [List.length_map] at h
  exact atI_cell (by omega)
theorem cell_out {ns : List Int} {k : Int} (h : ¬ k < (ns.map V.int).length) : ns.getD k.toNat 0 = 0 := by
  rw [List.length_map] at h
  rw [List.getD_eq_getElem?_getD, List.getElem?_eq_none (by omega)]
  rfl
def CellsSm (ns : List Int) : Prop := ∀ z ∈ ns, Sm 1048577 z
theorem sm_cell {ns : List Int} (h : CellsSm ns) (k : Nat) : Sm 1048577 (ns.getD k 0) := by
  rw [List.getD_eq_getElem?_getD]
  cases e : ns[k]? with
  | none => exact sm_mono (sm_lit (a := 1) (by decide)) (by decide)
  | some z => exact h z (List.mem_of_getElem? e)
theorem sm_bits {z : Int} (h : Builtin.Int.intBits z ≤ 1048576) : Sm 1048577 z := by
  have h1 : z.natAbs < 2 ^ (z.natAbs.log2 + 1) := Nat.lt_log2_self
  have h2 : z.natAbs.log2 ≤ 1048576 := by
    unfold Builtin.Int.intBits at h
    split at h
    · rename_i c
      have e : z = 0 := by simpa using c
      rw [e]
      decide
    · omega
  exact Nat.lt_of_lt_of_le h1 (Nat.pow_le_pow_right (by decide) (by omega))
theorem p18 : (10 : Int) ^ (18 : Int).toNat = 1000000000000000000 := by decide
theorem p40 : (10 : Int) ^ (40 : Int).toNat = 10000000000000000000000000000000000000000 := by decide
abbrev M18 : Int := 1000000000000000000
abbrev M40 : Int := 10000000000000000000000000000000000000000
theorem sm_m40 {z : Int} (h0 : 0 ≤ z) (h1 : z ≤ M40) : Sm 134 z := by
  unfold Sm M40 at *
  omega
theorem pow_ok {j : Int} (h0 : 0 ≤ j) (h : j ≤ 1000) : CPow 10 j := ⟨h0, by omega, by decide⟩
theorem in_two {k i j : Int} : inV (.int k) [.int i, .int j] = decide (k = i ∨ k = j) := by
  have e : inV (.int k) [.int i, .int j] = ((i == k) || ((j == k) || false)) := rfl
  rw [e]
  by_cases c1 : i = k
  · subst c1; simp
  · by_cases c2 : j = k
    · subst c2; simp
    · have h1 : ¬ k = i := fun h => c1 h.symm
      have h2 : ¬ k = j := fun h => c2 h.symm
      simp [c1, c2, h1, h2]
open Evl in
theorem ex_new {H : Hp} {p : Addr} {o : HO} (h : H p = none) : Ex H (upd H p o) := Ex.new h
/-! the script's cut, the steps over it -/
theorem cut63 {ns : List Int} (h : ns.length ≤ 63) : cutV (ns.map V.int) none (some 63) = ns.map V.int := by
  unfold cutV
  rw [HT.sIx_none, List.drop_zero, show (some 63 : Option Int) = some ((63 : Nat) : Int) from rfl, HT.sIx_nat, Nat.sub_zero, List.take_of_length_le]
  rw [List.length_map]
  omega
def rgOk (l d : Nat) : Bool := Builtin.Range.small 0 (l : Int) (1 + (l : Int) / (d : Int)) && decide (0 ≤ Builtin.Range.rangeSize 0 (l : Int) (1 + (l : Int) / (d : Int))) && decide (Builtin.Range.rangeSize 0 (l : Int) (1 + (l : Int) / (d : Int)) ≤ 63)
theorem rg_all : ∀ l : Fin 64, rgOk l 5 = true ∧ rgOk l 6 = true ∧ rgOk l 8 = true := by decide +kernel
theorem rg_of {l d : Nat} (h : l ≤ 63) (hd : 5 ≤ d) (k : rgOk l d = true) : ∃ n : Nat, n ≤ 63 ∧ RgC 0 (l : Int) (1 + (l : Int) / (d : Int)) n := by
  unfold rgOk at k
  rw [Bool.and_eq_true, Bool.and_eq_true, decide_eq_true_eq, decide_eq_true_eq] at k
  obtain ⟨⟨h1, h2⟩, h3⟩ := k
  have hp : 0 ≤ (l : Int) / (d : Int) := Int.ediv_nonneg (by omega) (by omega)
  have hq : (l : Int) / (d : Int) ≤ l := Int.ediv_le_self _ (by omega)
  exact ⟨(Builtin.Range.rangeSize 0 (l : Int) (1 + (l : Int) / (d : Int))).toNat, by omega, by omega, by omega, h1, by omega⟩
theorem step_le {l d : Nat} (h : l ≤ 63) (hd : 5 ≤ d) : 1 ≤ 1 + (l : Int) / (d : Int) ∧ 1 + (l : Int) / (d : Int) ≤ 13 := by
  have hp : 0 ≤ (l : Int) / (d : Int) := Int.ediv_nonneg (by omega) (by omega)
  have : (l : Int) / (d : Int) ≤ 12 := by
    have h1 : (l : Int) / (d : Int) < 13 := Int.ediv_lt_of_lt_mul (by omega) (by omega)
    omega
  omega
theorem place_le {i n : Nat} {c : Int} (hi : i < n) (hn : n ≤ 63) (h1 : 1 ≤ c) (h2 : c ≤ 13) : 0 ≤ 0 + (i : Int) * c ∧ 0 + (i : Int) * c ≤ 819 := by
  have a := Int.mul_nonneg (show (0 : Int) ≤ i by omega) (show 0 ≤ c by omega)
  have b := Int.mul_le_mul (show (i : Int) ≤ 63 by omega) h2 (by omega) (by decide)
  omega
theorem sm_mod18 (c : Int) : Sm 100 (c % 10 ^ (18 : Int).toNat) := by
  have i1 := Int.emod_nonneg c (show M18 ≠ 0 by decide)
  have i2 := Int.emod_lt_of_pos c (show 0 < M18 by decide)
  rw [p18]
  unfold Sm
  omega
theorem p18_pos : (0 : Int) < 10 ^ (18 : Int).toNat := by rw [p18]; decide
/-! objects, options -/
def optV : Option Int → V
  | some n => .int n
  | none => .non
theorem sm_ab {n : Nat} {i : Int} (h : Sm n i) : Sm n (Th.ab i) := by
  rcases Th.ab_def i with ⟨e, _⟩ | ⟨e, _⟩
  · rw [e]; exact h
  · rw [e]; exact sm_neg h
/-- a made object, its attributes stored -/
theorem ex_made {H : Hp} {x dx C : Addr} {fs : List (Str × V)} (nx : H x = none) (nd : H dx = none) (ne : dx ≠ x) : Evl.Ex H (upd (upd (upd H dx (.own x)) x (.ins C dx [])) x (.ins C dx fs)) := fun a o h => by
  rw [upd_ne (ne_of_none h nx), upd_ne (ne_of_none h nx), upd_ne (ne_of_none h nd)]
  exact h
theorem lk1 {k : Str} {v : V} : List.lookup k [(k, v)] = some v := by
  have e : (k == k) = true := beq_self_eq_true k
  simp only [List.lookup, e]
theorem lk0 {k g : Str} {v : V} (h : (k == g) = false) : List.lookup k [(g, v)] = none := by
  simp only [List.lookup, h]
/-! isinstance by an own class -/
structure InK (K : PySem.W.Frag) (C : Addr) : Prop where
  cl : Cls K C
  ha : PySem.W.findIn K (.ref C) "__class__" = some (some (.builtin "object.__class__"))
  hn : PySem.W.specialIn K (.builtin "object.__class__") "__get__" = some (some (.builtin "getset_descriptor.__get__"))
  htk : PySem.W.takesIn K (.builtin "object.__class__") = some true
  hm : PySem.W.mroIn K C (.type "object") = some true
def rIsO (K : PySem.W.Frag) : List V → Hp → VK → Prop := fun vs H Q => ∃ (a C dx : Addr) (fs : List (Str × V)) (D : Addr) (b : Bool), vs = [.ref a, .ref D] ∧ H a = some (.ins C dx fs) ∧ InK K C ∧ PySem.W.kitOne K (.ref C) (.ref D) = some b ∧ Q (.bl b) H
theorem cr_isO {X : Cx} : CallR X (.builtin "isinstance") (rIsO X.K) := by
  intro pins s σ H vs us Q I r h
  obtain ⟨a, C, dx, fs, D, b, rfl, ha, c, hk, q⟩ := h
  exact call_isi pins s σ H _ us Q I r ⟨.ref a, .ref D, .ref C, .ref D, b, rfl, .own D, .base (.ins ha c.cl c.ha c.hn c.htk c.hm), hk, q⟩
/-! t[::-1] of a pair -/
section
variable {prog : Program} {w : World} {A : Around} {E : Value → Shared → Prop} {s : Shared}
theorem sliceApplied_rev2 {sl : Addr} {vs : Value} {Q : Int × Int × Nat → Shared → Prop} (hs : s.heap.IsSliceOf sl .none .none vs) (ps : IsPart vs (some (-1)))
    (h : Q (1, -1, 2) s) : wpAny (model prog w) A (Builtin.Slice.sliceApplied (.ref sl) (pure 2)) Q E s := by
  obtain ⟨os, hos, hcs, hds⟩ := id hs
  unfold Builtin.Slice.sliceApplied Builtin.Slice.sliceFields
  refine wpAny_bind (wpAny_bind (wpAny_field hos hds (x := .none) rfl (wpAny_bind (wpAny_field hos hds (x := .none) rfl (wpAny_bind (wpAny_field hos hds (x := vs) rfl (wpAny_pure ?_)))))))
  refine wpAny_bind (HT.slicePart_ ps ?_)
  show wpAny _ _ (if ((-1 : Int) == 0) = true then _ else _) _ _ s
  rw [if_neg (by decide)]
  refine wpAny_bind (HT.slicePart_ .none (wpAny_bind (HT.slicePart_ .none (wpAny_bind (wpAny_pure ?_)))))
  exact wpAny_pure h
theorem getItem_rev2 {t sl : Addr} {u1 u2 vs : Value} {Q : Value → Shared → Prop} (ht : IsTup s.heap t [u1, u2].toArray) (hs : s.heap.IsSliceOf sl .none .none vs) (ps : IsPart vs (some (-1)))
    (h : Q (.ref s.heap.objs.size) { s with heap := s.heap.push { cls := .type "tuple", data := .seq [u2, u1].toArray } }) : wpAny (model prog w) A (getItem (.ref t) (.ref sl)) Q E s := by
  have htake : sizeOk (.seq [u2, u1].toArray) := by
    show 2 ≤ sizeLine
    decide
  obtain ⟨os, hos, hcs, hds⟩ := id hs
  have hTs : s.TypeIs (.ref sl) "slice" := ⟨os, hos, hcs⟩
  unfold getItem
  try with_reducible refine wpAny_holding ?_
  first | refine wpAny_bind (wpAny_pure ?_) | skip
  refine wpAny_bind (wpAny_sequenceKey ht.typeIs (by decide) ?_)
  refine wpAny_bind (wpAny_callSpecial?_slot (name := Str.ofString "__getitem__") ht.typeIs PyProof.Rows.slot_tuple_getitem
    (wpAny_call_entry PyProof.Rows.slot_tuple_getitem ht.typeIs PyProof.Rows.entry_tuple_getitem ?_ (PyProof.Rows.args_tuple_getitem _ _)))
  show wpAny _ _ (Builtin.Tuple.tupleItemsOf (.ref t) >>= _) _ _ s
  refine wpAny_bind (PyProof.Rows.tupleItemsOf_ ht ?_)
  refine wpAny_bind (wpAny_typeOf hTs ?_)
  rw [if_pos (by decide)]
  refine wpAny_bind (sliceApplied_rev2 hs ps ?_)
  show wpAny _ _ (if ((1 : Int) == 0 && (-1 : Int) == 1 && (2 : Nat) == 2) = true then _ else _) _ _ s
  rw [if_neg (by decide)]
  first
    | exact wpAny_bind (m := Builtin.Tuple.tupleExact _) (wpAny_newObj_type (wpAny_pure ⟨_, rfl, wpAny_pure h⟩) htake)
    | exact wpAny_bind (m := Builtin.Tuple.tupleExact _) (wpAny_newObj_type (wpAny_bind (wpAny_pure (wpAny_pure ⟨_, rfl, wpAny_pure h⟩))) htake)
    | exact wpAny_bind (wpAny_bind (m := Builtin.Tuple.tupleExact _) (wpAny_newObj_type (wpAny_pure (wpAny_pure ⟨_, rfl, wpAny_pure h⟩)) htake))
    | exact wpAny_bind (wpAny_bind (m := Builtin.Tuple.tupleExact _) (wpAny_newObj_type (wpAny_pure ⟨_, rfl, wpAny_pure h⟩) htake))
end
def tRevT (te : TE) : TE := fun σ H Q => te σ H fun x H1 => ∃ a i j, x = .ref a ∧ H1 a = some (.tup [i, j]) ∧ ∀ p, H1 p = none → Q (.ref p) (upd H1 p (.tup [j, i]))
theorem pe_revT {X : Cx} {e : Expr} {te : TE} {k : Nat} {p1 p2 p3 pos : Pos} (he : PE X e te) : PE X (.Subscript e (.Slice none none (some (.UnaryOp .USub (.Constant (.int 1) k p1) p2)) p3) pos) (tRevT te) := by
  refine ⟨fun pins s σ H Q I h => ?_⟩
  refine Subscript_ (thn (he.run pins s σ H _ I h) fun v s1 ⟨x, H1, I1, r1, q1⟩ => ?_)
  obtain ⟨a, i, j, ex, hx, q⟩ := q1
  subst ex
  cases r1
  have hst : PO X (some (.UnaryOp .USub (.Constant (.int 1) k p1) p2)) (tPart (tUn (rU fun i => .int (-i)) (tC (.int 1)))) := po_some (pe_un un_neg pe_int)
  refine wpAny_Slice (thn (po_none.run pins s1 σ H1 (fun o H2 => o = none ∧ H2 = H1) I1 ⟨rfl, rfl⟩) fun vl s2 ⟨l, H2, I2, pl, el, e2⟩ => ?_)
  subst el e2
  refine thn (po_none.run pins s2 σ H2 (fun o H3 => o = none ∧ H3 = H2) I2 ⟨rfl, rfl⟩) fun vu s3 ⟨u, H3, I3, pu, eu, e3⟩ => ?_
  subst eu e3
  refine thn (hst.run pins s3 σ H3 (fun o H4 => o = some (-1) ∧ H4 = H3) I3 ⟨1, rfl, -1, rfl, rfl, rfl⟩) fun vs s4 ⟨o, H4, I4, ps, eo, e4⟩ => ?_
  subst eo e4
  have I5 : Inv X pins σ H4 { s4 with heap := s4.heap.push { cls := .type "slice", data := .fields #[vl, vu, vs] } } := I4.kept (t' := s4.toks) fun b ob q => Heap.get?_push_of_some _ q
  obtain ⟨its, r, ht, hz⟩ := I5.tuple (SqT.of (K := X.K) hx)
  cases pl
  cases pu
  cases r with
  | cons r1 rr =>
    cases rr with
    | cons r2 rr =>
      cases rr
      show wpAny (model X.prog X.w) X.A (subscriptTail e (.Slice none none (some (.UnaryOp .USub (.Constant (.int 1) k p1) p2)) p3) (.ref a) (.ref s4.heap.objs.size)) (EP X pins σ Q) X.xe { s4 with heap := s4.heap.push { cls := .type "slice", data := .fields #[.none, .none, vs] } }
      refine tail_any (ops := [.ref a, .ref s4.heap.objs.size]) ht.typeIs (PyProof.Rows.slot_tuple_getitem.lookup) ?_ (by with_unfolding_all rfl)
      refine getItem_rev2 ht (Heap.IsSliceOf.new _ _ _ vs) ps ?_
      refine ⟨.ref _, _, I5.laid (t' := s4.toks) (o := .tup [j, i]) (fun b ob q => Heap.get?_push_of_some _ q) (Nat.le_refl _) ?_, rfl, q _ (I5.hok.fresh (Nat.le_refl _))⟩
      exact ⟨by show 2 ≤ sizeLine; decide, _, .cons r2 (.cons r1 .nil), IsTup.new _ _⟩
/-! (a, b) of two ints: a pair, in some heap that keeps what stood -/
def tPair (ta tb : TE) : TE := fun σ H Q => tCons ta (tCons tb tNil) σ H fun vs H2 => ∃ i j : Int, vs = [.int i, .int j] ∧ ∀ p H', Evl.Ex H2 H' → H' p = some (.tup [.int i, .int j]) → Q (.ref p) H'
theorem pe_pair {X : Cx} {a b : Expr} {ta tb : TE} {x1} {pos : Pos} (ha : PE X a ta) (hb : PE X b tb) (hs : starEach [a, b] X.env = (false, eval a X.env) :: starEach [b] X.env := by rfl) (hs2 : starEach [b] X.env = (false, eval b X.env) :: starEach [] X.env := by rfl) :
    PE X (.Tuple [a, b] x1 pos) (tPair ta tb) := by
  refine ⟨fun pins s σ H Q I hq => ?_⟩
  refine wpAny_Tuple_spliced (thn ((pa_cons ha (pa_cons hb pa_nil hs2) hs).run pos pins s σ H _ I hq) fun us s1 ⟨xs, H1, I1, r, i, j, e, q⟩ => ?_)
  subst e
  have hf : H1 s1.heap.objs.size = none := I1.hok.fresh (Nat.le_refl _)
  refine ⟨by rw [← r.length]; show 2 ≤ sizeLine; decide, ?_⟩
  refine ⟨.ref s1.heap.objs.size, upd H1 s1.heap.objs.size (.tup [.int i, .int j]), I1.laid (t' := s1.toks) (fun b u e => Heap.get?_push_of_some _ e) (Nat.le_refl _) ?_, rfl, q _ _ (ex_new hf) upd_same⟩
  exact ⟨by show 2 ≤ sizeLine; decide, us, r, ⟨_, Heap.get?_push_size _ rfl, rfl, _, rfl⟩⟩
/-- what is a pair of ints of n bits -/
def PrT (H : Hp) (x : V) : Prop := ∃ (q : Addr) (u v : Int), x = .ref q ∧ H q = some (.tup [.int u, .int v])
theorem prt_mono {H H' : Hp} {x : V} (e : Evl.Ex H H') (h : PrT H x) : PrT H' x := by
  obtain ⟨q, u, v, rfl, h⟩ := h
  exact ⟨q, u, v, rfl, e _ _ h⟩
theorem rep_snoc (n : Nat) (x : V) : List.replicate n x ++ [x] = List.replicate (n + 1) x := by
  rw [List.replicate_succ']
theorem rep_map (n : Nat) (b : Bool) : List.replicate n (V.bl b) = (List.replicate n b).map V.bl := by
  rw [List.map_replicate]
theorem rep_all (n : Nat) : (List.replicate n true).all id = true := by
  rw [List.all_eq_true]
  intro x hx
  rw [List.mem_replicate] at hx
  rw [hx.2]
  rfl
theorem nof_bl {b i j : Int} (hb : 1 ≤ b) : (decide ((max i j - min i j) % b = 0) && decide (Th.A b ((max i j - min i j) / b) = min i j ∧ Th.B b ((max i j - min i j) / b) = max i j)) = (Th.nof b i j).isSome := by
  have e : Th.ab (i - j) = max i j - min i j := by
    rcases Th.ab_def (i - j) with h | h <;> omega
  unfold Th.nof
  rw [e]
  by_cases c : Th.A b ((max i j - min i j) / b) = min i j ∧ Th.B b ((max i j - min i j) / b) = max i j
  · rw [if_pos c]
    have d : Th.B b ((max i j - min i j) / b) = Th.A b ((max i j - min i j) / b) + b * ((max i j - min i j) / b) := rfl
    have m := Int.mul_ediv_add_emod (max i j - min i j) b
    have z : (max i j - min i j) % b = 0 := by omega
    simp [z, c]
  · rw [if_neg c]
    simp [c]
theorem shows_lost {b i j n : Int} (hb : 1 ≤ b) : decide (Th.nof b i j = some n) = (decide (0 ≤ n) && decide (Th.A b n = min i j ∧ Th.B b n = max i j)) := by
  by_cases c : Th.nof b i j = some n
  · obtain ⟨h0, h1, h2⟩ := Th.nof_some hb c
    simp [c, h0, h1, h2]
  · by_cases h0 : 0 ≤ n
    · have : ¬ (Th.A b n = min i j ∧ Th.B b n = max i j) := fun h => c (Th.nof_of hb h0 h.1 h.2)
      rw [decide_eq_false c, decide_eq_true h0, decide_eq_false this]
      rfl
    · rw [decide_eq_false c, decide_eq_false h0]
      rfl
theorem p60 : (10 : Int) ^ (60 : Int).toNat = 1000000000000000000000000000000000000000000000000000000000000 := by decide
theorem p60_pos : (0 : Int) < 10 ^ (60 : Int).toNat := by rw [p60]; decide
theorem sm_p60 {c : Int} (h : Th.ab c < 10 ^ (60 : Int).toNat) : Sm 300 c := by
  rw [p60] at h
  refine sm_mono (a := 200) ?_ (by decide)
  unfold Sm
  rcases Th.ab_def c with ⟨e, _⟩ | ⟨e, _⟩ <;> omega
theorem sm_mod60 (c : Int) : Sm 300 (c % 10 ^ (60 : Int).toNat) := by
  refine sm_p60 ?_
  have h1 := Int.emod_nonneg c (show (10 : Int) ^ (60 : Int).toNat ≠ 0 by rw [p60]; decide)
  have h2 := Int.emod_lt_of_pos c p60_pos
  rcases Th.ab_def (c % 10 ^ (60 : Int).toNat) with ⟨e, _⟩ | ⟨e, _⟩ <;> omega
/-! displays, in some heap that keeps what stood -/
def tTupE (t : TA) : TE := fun σ H Q => t σ H fun xs H1 => xs.length ≤ sizeLine ∧ ∀ p H', Evl.Ex H1 H' → H' p = some (.tup xs) → Q (.ref p) H'
def tLstE (t : TA) : TE := fun σ H Q => t σ H fun xs H1 => xs.length ≤ sizeLine ∧ ∀ p H', Evl.Ex H1 H' → H' p = some (.lst xs) → H1 p = none → Q (.ref p) H'
theorem pe_tupE {X : Cx} {es : List Expr} {t : TA} {x1} {pos : Pos} (h : PA X es t) : PE X (.Tuple es x1 pos) (tTupE t) := by
  refine ⟨fun pins s σ H Q I hq => ?_⟩
  refine wpAny_Tuple_spliced (thn (h.run pos pins s σ H _ I hq) fun us s1 ⟨xs, H1, I1, r, z, q⟩ => ⟨by rw [← r.length]; exact z, ?_⟩)
  have hf : H1 s1.heap.objs.size = none := I1.hok.fresh (Nat.le_refl _)
  refine ⟨.ref s1.heap.objs.size, upd H1 s1.heap.objs.size (.tup xs), I1.laid (t' := s1.toks) (fun b u e => Heap.get?_push_of_some _ e) (Nat.le_refl _) ?_, rfl, q _ _ (ex_new hf) upd_same⟩
  exact ⟨z, us, r, ⟨_, Heap.get?_push_size _ rfl, rfl, _, rfl⟩⟩
theorem pe_lstE {X : Cx} {es : List Expr} {t : TA} {pos : Pos} (h : PA X es t) : PE X (.List es pos) (tLstE t) := by
  refine ⟨fun pins s σ H Q I hq => ?_⟩
  refine wpAny_List_spliced (thn (h.run pos pins s σ H _ I hq) fun us s1 ⟨xs, H1, I1, r, z, q⟩ => ⟨by rw [← r.length]; exact z, ?_⟩)
  have hf : H1 s1.heap.objs.size = none := I1.hok.fresh (Nat.le_refl _)
  refine ⟨.ref s1.heap.objs.size, upd H1 s1.heap.objs.size (.lst xs), I1.laid (t' := s1.toks) (fun b u e => Heap.get?_push_of_some _ e) (Nat.le_refl _) ?_, rfl, q _ _ (ex_new hf) upd_same hf⟩
  exact ⟨z, us, 0, r, Heap.get?_push_size _ rfl⟩
/-! calls of a def that raises, within a try -/
structure CalX (P : Program) (w : World) (K : PySem.W.Frag) (mg : Str → Option Value) (base : Heap) (k : Nat) (x : Str) (ps : List Str) (sp : Sp) : Prop where
  ex : ∃ (f : Addr) (fd : FuncData), FnOk P w K mg base (L2.CX P w) k f fd ps sp ∧ mg x = some (.ref f) ∧ PySem.W.keepIn K (.ref f) = true ∧ Binds K fd ps []
theorem pe_cx {X : Cx} {k j : Nat} {x : Str} {ps : List Str} {sp : Sp} {W : WX} {p pos : Pos} {e : Expr} {es : List Expr} {t : TA} (c : CalX X.prog X.w X.K X.mg X.base k x ps sp) (hr : Room j X.A) (hk : k ≤ j) (hg : Gl X x) (tk : Takes X W) (ha : PA X (e :: es) t)
    (hdb : (x == ("__debug__" : Str)) = false := by decide) (he : starEach (e :: es) X.env = (false, eval e X.env) :: starEach es X.env := by rfl) (hpl : (backTo pos (starEach es X.env)).any (·.1) = false := by rfl) :
    PE X (.Call (.Name x p) (e :: es) [] pos) (tCallS sp (WE W) t) := by
  obtain ⟨f, fd, F, hm, kp, b⟩ := c.ex
  exact pe_callS F (hr.mono hk) hg hm kp b (fun σ => passAt tk σ) ha hdb he hpl
theorem pss_given {X : Cx} {sts : List Stmt} {t : TS} {G : Prop} (h : G → PSs X sts t) : PSs X sts (fun D σ H => G ∧ t D σ H) := ⟨fun pins s σ H D I ⟨g, q⟩ => (h g).run pins s σ H D I q⟩
/-! o.m(..), o of one of two classes -/
def tMeth2 (C1 C2 : Addr) (m : Str) (sp1 sp2 : Sp) (ta : TE) (t : TA) : TE := fun σ H Q => ta σ H fun x H1 =>
  (∃ a dx fs, x = .ref a ∧ H1 a = some (.ins C1 dx fs) ∧ fs.lookup m = none ∧ t σ H1 fun vs H2 => sp1 (x :: (vs ++ [])) H2 Q E0) ∨
  (∃ a dx fs, x = .ref a ∧ H1 a = some (.ins C2 dx fs) ∧ fs.lookup m = none ∧ t σ H1 fun vs H2 => sp2 (x :: (vs ++ [])) H2 Q E0)
theorem pe_mt2 {X : Cx} {k1 k2 j : Nat} {C1 C2 : Addr} {m : Str} {sp1 sp2 : Sp} {apos pos : Pos} {e o : Expr} {es : List Expr} {ta : TE} {t : TA} {pl : Sem Bool} (c1 : C8.Met X.prog X.w X.K X.mg X.base k1 C1 m sp1 []) (c2 : C8.Met X.prog X.w X.K X.mg X.base k2 C2 m sp2 [])
    (hr : Room j X.A) (hk1 : k1 ≤ j) (hk2 : k2 ≤ j) (he : PE X o ta) (ha : PA X (e :: es) t)
    (hst : starEach (e :: es) X.env = (false, eval e X.env) :: starEach es X.env := by rfl) (hpl : (backTo pos (starEach es X.env)).any (·.1) = false := by rfl)
    (ht : eval (.Call (.Attribute o m apos) (e :: es) [] pos) X.env = (do
      let ov ← eval o X.env
      standAt apos.atName
      let (f, first) ← holding [ov] (getMethod ov m pl)
      callWith pos f first (backTo pos (starEach (e :: es) X.env)) (backToKw pos (keywordEach [] X.env))) := by rfl) :
    PE X (.Call (.Attribute o m apos) (e :: es) [] pos) (tMeth2 C1 C2 m sp1 sp2 ta t) := by
  refine ⟨fun pins s σ H Q I h => ?_⟩
  refine PySem.W.methodCall_KW (pl := pl) (thn (he.run pins s σ H _ I h) fun u s1 ⟨x, H1, I1, rx, q⟩ => ?_) ht
  rcases q with ⟨a, dx, fs, ex, ea, l, q⟩ | ⟨a, dx, fs, ex, ea, l, q⟩
  · obtain ⟨f, fd, ps, ds, hc, hm, F, b, d⟩ := c1.ex
    subst ex
    obtain rfl : u = Value.ref a := rx
    refine getmeth_ok I1 ea hc hm l ?_
    refine PySem.W.callWith_K (first := [.ref a]) (h₀ := X.base) I.ok.mod.kin hm.kp (thn (ha.run pos pins s1 σ H1 _ I1 q) fun us s2 ⟨vs, H2, I2, r, q2⟩ => ⟨I2.kIn, ?_⟩) hst hpl
    exact run_fn (us := .ref a :: us) (vs := .ref a :: vs) F (hr.mono hk1) b d pass0 I2 (.cons rfl r) q2
  · obtain ⟨f, fd, ps, ds, hc, hm, F, b, d⟩ := c2.ex
    subst ex
    obtain rfl : u = Value.ref a := rx
    refine getmeth_ok I1 ea hc hm l ?_
    refine PySem.W.callWith_K (first := [.ref a]) (h₀ := X.base) I.ok.mod.kin hm.kp (thn (ha.run pos pins s1 σ H1 _ I1 q) fun us s2 ⟨vs, H2, I2, r, q2⟩ => ⟨I2.kIn, ?_⟩) hst hpl
    exact run_fn (us := .ref a :: us) (vs := .ref a :: vs) F (hr.mono hk2) b d pass0 I2 (.cons rfl r) q2
end TH

/-! rules of one's own, for what raises -/
namespace TH
open PySem PySem.Spec PyProof.Rows L2
/-! kinds of values -/
inductive Kd (H : Hp) : V → String → Prop
  | non : Kd H .non "NoneType"
  | str (x : Str) : Kd H (.str x) "str"
  | bl (b : Bool) : Kd H (.bl b) "bool"
  | int (i : Int) : Kd H (.int i) "int"
  | lst {a : Addr} {xs : List V} (h : H a = some (.lst xs)) : Kd H (.ref a) "list"
  | tup {a : Addr} {xs : List V} (h : H a = some (.tup xs)) : Kd H (.ref a) "tuple"
  | dK {a : Addr} {kvs : List (Key × V)} (h : H a = some (.dK kvs)) : Kd H (.ref a) "dict"
theorem Kd.ty {K : PySem.W.Frag} {H : Hp} {v : V} {S : String} (h : Kd H v S) : TyX K H v (.type S) := by
  cases h with
  | non => exact .base .non
  | str x => exact .base (.str x)
  | bl b => exact .base (.bl b)
  | int i => exact .base (.int i)
  | lst h => exact .base (.lst h)
  | tup h => exact .base (.tup h)
  | dK h => exact .base (.dK h)
theorem Kd.mono {H H' : Hp} {v : V} {S : String} (e : Evl.Ex H H') (h : Kd H v S) : Kd H' v S := by
  cases h with
  | non => exact .non
  | str x => exact .str x
  | bl b => exact .bl b
  | int i => exact .int i
  | lst h => exact .lst (e _ _ h)
  | tup h => exact .tup (e _ _ h)
  | dK h => exact .dK (e _ _ h)
theorem Kd.whole {H : Hp} {v : V} {S : String} (h : Kd H v S) (n : S ≠ "int") : kitB S "int" = some false ∨ (kitB S "int" = some true ∧ kitB S "bool" = some true) := by
  cases h with
  | non => exact .inl (by decide +kernel)
  | str x => exact .inl (by decide +kernel)
  | bl b => exact .inr ⟨by decide +kernel, by decide +kernel⟩
  | int i => exact absurd rfl n
  | lst h => exact .inl (by decide +kernel)
  | tup h => exact .inl (by decide +kernel)
  | dK h => exact .inl (by decide +kernel)
theorem Kd.notup {H : Hp} {v : V} {S : String} (h : Kd H v S) (n : S ≠ "tuple") : kitB S "tuple" = some false := by
  cases h with
  | non => decide +kernel
  | str x => decide +kernel
  | bl b => decide +kernel
  | int i => decide +kernel
  | lst h => decide +kernel
  | tup h => exact absurd rfl n
  | dK h => decide +kernel
def rIsKd : List V → Hp → VK → Prop := fun vs H Q => ∃ (x : V) (S T : String) (b : Bool), vs = [x, .ty T] ∧ Kd H x S ∧ kitB S T = some b ∧ Q (.bl b) H
theorem cr_isKd {X : Cx} : CallR X (.builtin "isinstance") rIsKd := by
  intro pins s σ H vs us Q I r h
  obtain ⟨x, S, T, b, rfl, hx, hk, q⟩ := h
  exact call_isi pins s σ H _ us Q I r ⟨x, .ty T, .type S, .type T, b, rfl, .ty T, hx.ty, kit_ty hk, q⟩
/-- not whole; no pair; no bound; no heaps; no number from f on -/
def Wn (H : Hp) (v : V) : Prop := ∃ S, Kd H v S ∧ S ≠ "int"
def Pn (H : Hp) (v : V) : Prop := (∃ S, Kd H v S ∧ S ≠ "tuple") ∨ ∃ p xs, v = .ref p ∧ H p = some (.tup xs) ∧ (xs.length ≠ 2 ∨ ∃ x y, xs = [x, y] ∧ (Wn H x ∨ ((∃ i : Int, x = .int i) ∧ Wn H y)))
def Bn (H : Hp) (v : V) : Prop := Wn H v ∨ ∃ i : Int, v = .int i ∧ i < 1
def Hn (H : Hp) (v : V) : Prop := Pn H v ∨ ∃ (p : Addr) (i j : Int), v = .ref p ∧ H p = some (.tup [.int i, .int j]) ∧ (i < 0 ∨ j < 0)
def Nn (H : Hp) (v : V) (f : Int) : Prop := Wn H v ∨ ∃ i : Int, v = .int i ∧ i < f
theorem Wn.mono {H H' : Hp} {v : V} (e : Evl.Ex H H') : Wn H v → Wn H' v := fun ⟨S, h, n⟩ => ⟨S, h.mono e, n⟩
theorem Pn.mono {H H' : Hp} {v : V} (e : Evl.Ex H H') (h : Pn H v) : Pn H' v := by
  rcases h with ⟨S, h, n⟩ | ⟨p, xs, r, h, z⟩
  · exact .inl ⟨S, h.mono e, n⟩
  · refine .inr ⟨p, xs, r, e _ _ h, ?_⟩
    rcases z with z | ⟨x, y, z, w | ⟨w1, w2⟩⟩
    · exact .inl z
    · exact .inr ⟨x, y, z, .inl (w.mono e)⟩
    · exact .inr ⟨x, y, z, .inr ⟨w1, w2.mono e⟩⟩
theorem Bn.mono {H H' : Hp} {v : V} (e : Evl.Ex H H') (h : Bn H v) : Bn H' v := h.elim (fun h => .inl (h.mono e)) .inr
theorem Hn.mono {H H' : Hp} {v : V} (e : Evl.Ex H H') (h : Hn H v) : Hn H' v := h.elim (fun h => .inl (h.mono e)) fun ⟨p, i, j, r, h, z⟩ => .inr ⟨p, i, j, r, e _ _ h, z⟩
theorem Nn.mono {H H' : Hp} {v : V} {f : Int} (e : Evl.Ex H H') (h : Nn H v f) : Nn H' v f := h.elim (fun h => .inl (h.mono e)) .inr
/-! defs that raise where nothing is handled -/
theorem takes0N {X : Cx} : L2N.Takes X (fun _ _ _ _ => False) := fun _ _ x => by
  obtain ⟨_, _, _, _, _, _, _, _, _, _, _, _, _, _, _, _, z⟩ := x
  exact z.elim
theorem okN {P : Program} {w : World} {K : PySem.W.Frag} {mg : Str → Option Value} {base : Heap} {x qual : Str} {st : Stmt} {f : Addr} {fd : FuncData} {N ps : List Str} {k : Nat} {sp : Sp} (F : L2.Fun K x qual st f fd) (S : FnScope N ps (defScope st)) (len : ∀ vs H Q E, sp vs H Q E → vs.length = ps.length)
    (hbody : ∀ (cdv : Value) (A : Around) (outer : List Env) (s : Shared) (H : Hp) (vs : List V) (Q : VK) (E : XK), Room k (A.deeper (envOfC qual (defScope st) s.heap.objs.size f cdv)) → sp vs H Q E →
      ∃ t, PSs (cxOf (L2N.CX P w) P w K mg base N qual (defScope st) f cdv A outer s H E) (defBody st) t ∧ t { nx := fun _ H' => Q .non H', rt := Q } (start N vs) H) : FnOk P w K mg base (L2N.CX P w) (k + 1) f fd ps sp := by
  obtain ⟨oc, od, kV, doc, pm, an, cdv, ct, osl, rfl, lk, hcd⟩ := F.ex
  exact fn_of lk hcd S len fun A outer s H vs Q E hr hsp => hbody cdv A outer s H vs Q E hr hsp
structure CalN (P : Program) (w : World) (K : PySem.W.Frag) (mg : Str → Option Value) (base : Heap) (k : Nat) (x : Str) (ps : List Str) (sp : Sp) : Prop where
  ex : ∃ (f : Addr) (fd : FuncData), FnOk P w K mg base (L2N.CX P w) k f fd ps sp ∧ mg x = some (.ref f) ∧ PySem.W.keepIn K (.ref f) = true ∧ Binds K fd ps []
theorem pe_cn {X : Cx} {k j : Nat} {x : Str} {ps : List Str} {sp : Sp} {W : WX} {p pos : Pos} {e : Expr} {es : List Expr} {t : TA} (c : CalN X.prog X.w X.K X.mg X.base k x ps sp) (hr : Room j X.A) (hk : k ≤ j) (hg : Gl X x) (tk : L2N.Takes X W) (ha : PA X (e :: es) t)
    (hdb : (x == ("__debug__" : Str)) = false := by decide) (he : starEach (e :: es) X.env = (false, eval e X.env) :: starEach es X.env := by rfl) (hpl : (backTo pos (starEach es X.env)).any (·.1) = false := by rfl) :
    PE X (.Call (.Name x p) (e :: es) [] pos) (tCallS sp (WE W) t) := by
  obtain ⟨f, fd, F, hm, kp, b⟩ := c.ex
  exact pe_callS F (hr.mono hk) hg hm kp b (fun σ => L2N.passAt tk σ) ha hdb he hpl
/-- a local name that holds one of several defs -/
def HeldN (P : Program) (w : World) (K : PySem.W.Frag) (mg : Str → Option Value) (base : Heap) (k : Nat) (f : Addr) (sp : Sp) : Prop :=
  ∃ (fd : FuncData) (ps : List Str), FnOk P w K mg base (L2N.CX P w) k f fd ps sp ∧ PySem.W.keepIn K (.ref f) = true ∧ Binds K fd ps []
theorem CalN.held {P : Program} {w : World} {K : PySem.W.Frag} {mg : Str → Option Value} {base : Heap} {k j : Nat} {x : Str} {ps : List Str} {sp : Sp} {f : Addr} (c : CalN P w K mg base k x ps sp) (h : mg x = some (.ref f)) (hk : k = j) : HeldN P w K mg base j f sp := by
  obtain ⟨f', fd, F, hm, kp, b⟩ := c.ex
  rw [h] at hm
  cases hm
  subst hk
  exact ⟨fd, ps, F, kp, b⟩
def tCallLN (i : Nat) (S : Addr → Sp → Prop) (E : L2.St → XK) (t : TA) : TE := fun σ H Q => ∃ f sp, σ[i]? = some (some (.ref f)) ∧ S f sp ∧ t σ H fun vs H1 => sp vs H1 Q (E σ)
theorem pe_callLN {X : Cx} {k i : Nat} {x : Str} {S : Addr → Sp → Prop} {W : WX} {p pos : Pos} {e : Expr} {es : List Expr} {t : TA} (A : ∀ f sp, S f sp → ∃ k', k' ≤ k ∧ HeldN X.prog X.w X.K X.mg X.base k' f sp) (hr : Room k X.A) (tk : L2N.Takes X W) (hN : X.N[i]? = some x) (hv : Vis X.env.scope x) (ha : PA X (e :: es) t)
    (hd : (x == ("__debug__" : Str)) = false := by decide) (hcd : (x == ("__classdict__" : Str)) = false := by decide)
    (he : starEach (e :: es) X.env = (false, eval e X.env) :: starEach es X.env := by rfl) (hpl : (backTo pos (starEach es X.env)).any (·.1) = false := by rfl) : PE X (.Call (.Name x p) (e :: es) [] pos) (tCallLN i S (WE W) t) := by
  refine ⟨fun pins s σ H Q I h => ?_⟩
  obtain ⟨f, sp, hs, hS, h⟩ := h
  obtain ⟨k', hk', fd, ps, F, kp, b⟩ := A f sp hS
  refine wpAny_Call_Name_kw (thn ((pe_var (pos := p) (i := i) hN hv hd hcd).run pins s σ H (fun v H1 => v = .ref f ∧ H1 = H) I ⟨.ref f, hs, rfl, rfl⟩) fun u s1 ⟨v, H1, I1, r1, ev, eH⟩ => ?_)
  subst ev
  rw [eH] at I1
  cases r1
  refine PySem.W.callWith_K (h₀ := X.base) I.ok.mod.kin kp (thn (ha.run pos pins s1 σ H _ I1 h) fun us s2 ⟨vs, H2, I2, r, q⟩ => ⟨I2.kIn, ?_⟩) he hpl
  exact run_fnS F (hr.mono hk') b (L2N.passAt tk σ) I2 r q
/-! a def called while an exception is handled; its promise may speak of that exception's object -/
structure FnP (P : Program) (w : World) (K : PySem.W.Frag) (mg : Str → Option Value) (base : Heap) (k : Nat) (f : Addr) (fd : FuncData) (ps : List Str) (sp : Addr × Obj → Sp) : Prop where
  len : ∀ p vs H Q E, sp p vs H Q E → vs.length = ps.length
  run : ∀ (A : Around) (outer : List Env) (s : Shared) (H : Hp) (args : Args) (us : List Value) (vs : List V) (Q : VK) (p : Addr × Obj), L2H.RoomH k A → L2H.Hot1 A p → L2H.PinOk outer H s p → Env0 P w K mg base A outer s H → BindsTo s fd args (ps.zip us) → Vals vs us → sp p vs H Q E0 →
    codeAny (model P w) A (.call (.ref f) args) (CR CX0 outer P w H s Q E0) s
theorem okP {P : Program} {w : World} {K : PySem.W.Frag} {mg : Str → Option Value} {base : Heap} {k : Nat} {f : Addr} {fd : FuncData} {x qual : Str} {st : Stmt} {N ps : List Str} {sp : Addr × Obj → Sp} (F : L2.Fun K x qual st f fd) (S : FnScope N ps (defScope st))
    (len : ∀ p vs H Q E, sp p vs H Q E → vs.length = ps.length)
    (hbody : ∀ (cdv : Value) (A : Around) (outer : List Env) (s : Shared) (H : Hp) (vs : List V) (Q : VK) (p : Addr × Obj), L2H.Hot1 A p → L2H.RoomH k (A.deeper (envOfC qual (defScope st) s.heap.objs.size f cdv)) → sp p vs H Q E0 →
      ∃ t, PSs (L2H.cxH CX0 P w K mg base N qual (defScope st) f cdv A outer s H E0 p) (defBody st) t ∧ t { nx := fun _ H' => Q .non H', rt := Q } (start N vs) H) : FnP P w K mg base (k + 1) f fd ps sp := by
  obtain ⟨oc, od, kV, doc, pm, an, cdv, ct, osl, rfl, lk, hcd⟩ := F.ex
  constructor
  · exact len
  intro A outer s H args us vs Q p hr hot hpin e0 hb r hsp
  have stays : ∀ b o, base.get? b = some o → s.heap.get? b = some o := fun b o e => (e0.bs b o e).1
  have text : K.In s.heap := e0.mod.kin.keeps stays
  have par : ∀ y ∈ ps.zip us, (defScope st).names.lookup y.1 = some .local ∨ ((defScope st).names.lookup y.1 = some .cell ∧ ((cellsFrom (s.heap.objs.size + 1) (defScope st).names []).lookup y.1).isSome = true) := by
    intro y hy
    cases S.par y.1 (List.of_mem_zip (a := y.1) (b := y.2) hy).1 with
    | inl q => exact .inl q
    | inr q => exact .inr ⟨q, PySem.W.cellsFrom_some _ _ _ (.inl q)⟩
  refine codeAny_call_function hr.depth (text _ _ lk) rfl S.co S.gen rfl (PySem.W.codeRec_of text hcd) (hb _ _ _ _ ?_)
  refine wpAny_newFunctionEnv_cells S.kind par ?_
  rintro env rfl s1 z
  have nolim := e0.mod.nolimit.keeps stays
  obtain ⟨t, ht, hq⟩ := hbody cdv A outer s H vs Q p hot (hr.deeper _) hsp
  have done := ht.run [] s1 (start N vs) H _ (L2H.inv_startH S hpin e0 (len _ _ _ _ _ hsp) r z) hq
  refine ⟨nolim.keeps z.toInCall.keep, codeAny_func (wpAny_mono done ?_ fun _ _ q => q)⟩
  intro fl s' q
  match fl, q with
  | .ret u, ⟨v, σ', H', J, rv, q⟩ => exact ⟨v, H', J.os, J.bare, J.base, J.hok, rv, q⟩
  | .next, ⟨σ', H', J, q⟩ => exact ⟨V.non, H', J.os, J.bare, J.base, J.hok, rfl, q⟩
  | .brk, ⟨_, _, _, q⟩ => exact q.elim
  | .cont, ⟨_, _, _, q⟩ => exact q.elim
structure CalP (P : Program) (w : World) (K : PySem.W.Frag) (mg : Str → Option Value) (base : Heap) (k : Nat) (x : Str) (ps : List Str) (sp : Addr × Obj → Sp) : Prop where
  ex : ∃ (f : Addr) (fd : FuncData), FnP P w K mg base k f fd ps sp ∧ mg x = some (.ref f) ∧ PySem.W.keepIn K (.ref f) = true ∧ Binds K fd ps []
def tCallP (sp : Sp) (t : TA) : TE := fun σ H Q => t σ H fun vs H1 => sp vs H1 Q E0
theorem pe_cp {X : Cx} {k j : Nat} {x : Str} {ps : List Str} {sp : Addr × Obj → Sp} {p : Addr × Obj} {q pos : Pos} {e : Expr} {es : List Expr} {t : TA} (c : CalP X.prog X.w X.K X.mg X.base k x ps sp) (hr : L2H.RoomH j X.A) (hk : k ≤ j) (hot : L2H.Hot1 X.A p) (hp : p ∈ X.pn) (hg : Gl X x) (ha : PA X (e :: es) t)
    (hdb : (x == ("__debug__" : Str)) = false := by decide) (he : starEach (e :: es) X.env = (false, eval e X.env) :: starEach es X.env := by rfl) (hpl : (backTo pos (starEach es X.env)).any (·.1) = false := by rfl) :
    PE X (.Call (.Name x q) (e :: es) [] pos) (tCallP (sp p) t) := by
  obtain ⟨f, fd, F, hm, kp, hb⟩ := c.ex
  refine ⟨fun pins s σ H Q I h => ?_⟩
  refine wpAny_Call_Name_kw (ld_glob I hg hm ?_ hdb)
  refine PySem.W.callWith_K (h₀ := X.base) I.ok.mod.kin kp (thn (ha.run pos pins s σ H _ I h) fun us s1 ⟨vs, H1, I1, r, h⟩ => ⟨I1.kIn, ?_⟩) he hpl
  have hl : us.length = ps.length := by rw [← r.length]; exact F.len _ _ _ _ _ h
  have b := hb s1 us I1.kIn (by rw [List.append_nil]; exact hl)
  rw [List.append_nil] at b
  have P1 := I1.pin p (List.mem_append_left _ hp)
  have hpin : L2H.PinOk X.stack H1 s1 p := ⟨P1.1, P1.2.1, fun hm => (List.mem_cons.mp (I1.stkSub p.1 hm)).elim P1.2.2.1 P1.2.2.2.1, P1.2.2.2.2⟩
  refine wpAny_call (codeAny_mono (F.run X.A X.stack s1 H1 ⟨us, []⟩ us vs Q p (hr.mono hk) hot hpin I1.env0 b r h) fun r s' hq => ?_)
  cases r with
  | error e => exact False.elim hq
  | ok fl =>
    cases fl with
    | ret u => exact I1.after hq
    | next => exact False.elim hq
    | brk => exact False.elim hq
    | cont => exact False.elim hq
/-- isinstance of an exception that is pinned -/
theorem cr_isP {X : Cx} {p : Addr × Obj} {D : Addr} (hp : p ∈ X.pn) (C : ExcC X.K D) (h1 : p.2.cls = .ref D) (h2 : p.2.dict = none) (hf : ∃ vs, p.2.data = .fields vs) : CallR X (.builtin "isinstance") (rIsE X.K D p.1) := by
  intro pins s σ H xs us Q I r h
  obtain ⟨c, cv, b, rfl, hcv, e, q⟩ := h
  obtain ⟨a, oe⟩ := p
  cases r with
  | cons rx rr =>
    cases rr with
    | cons rt rr =>
      cases rr
      cases rx
      have ec := hcv _ rt
      subst ec
      obtain ⟨hget, _⟩ := I.pin (a, oe) (List.mem_append_left _ hp)
      obtain ⟨vs, hv⟩ := hf
      have J : PySem.W.InstAt s.heap a oe D none := by
        obtain ⟨oc, od, oda, osl⟩ := oe
        dsimp only at h1 h2 hv
        subst h1 h2 hv
        exact ⟨hget, rfl, rfl, trivial⟩
      exact PySem.W.kia_one (PySem.W.handS_kitx_exc C.hg C.hk C.hs C.hd C.ha C.hn C.ht C.hm) I.kIn J e (fun z => nomatch z) fun tk => ⟨.bl b, H, I.kept (t' := tk) fun _ _ z => z, rfl, q⟩
/-- == and != of data, the part told apart (within a comprehension) -/
theorem op_eqDK {X : Cx} {K : PySem.W.Frag} (hK : X.K = K) (hu : X.A.units + 64 < cLine) : OpR X (compareOp .Eq) (rEqD K) := by
  subst hK
  exact op_eqD hu
theorem op_neDK {X : Cx} {K : PySem.W.Frag} (hK : X.K = K) (hu : X.A.units + 64 < cLine) : OpR X (compareOp .NotEq) (rNeD K) := by
  subst hK
  exact op_neD hu
end TH

namespace TH
open PySem PySem.Spec PyProof.Rows L2
section text
def top (i : Nat) : Stmt := PySem.Challenge.pw_twoheaps_k05_refused.main.body.getD i (.Pass ⟨0, 0, 0, 0⟩)
structure Cs where
  c_HeapError : Addr
  c_BadBound : Addr
  c_BadHeaps : Addr
  c_BadTaking : Addr
  c_BadNumber : Addr
  c__law_with_bound : Addr
  c__law_with_heaps : Addr
  c__law_with_taking : Addr
  c__law_with_number : Addr
structure Txt (K : PySem.W.Frag) (mg : Str → Option Value) (cs : Cs) : Prop where
  n_ValueError : mg "ValueError" = none
  n_abs : mg "abs" = none
  n_all : mg "all" = none
  n_bool : mg "bool" = none
  n_int : mg "int" = none
  n_isinstance : mg "isinstance" = none
  n_len : mg "len" = none
  n_range : mg "range" = none
  n_tuple : mg "tuple" = none
  g_HeapError : mg "HeapError" = some (.ref cs.c_HeapError)
  g_BadBound : mg "BadBound" = some (.ref cs.c_BadBound)
  g_BadHeaps : mg "BadHeaps" = some (.ref cs.c_BadHeaps)
  g_BadTaking : mg "BadTaking" = some (.ref cs.c_BadTaking)
  g_BadNumber : mg "BadNumber" = some (.ref cs.c_BadNumber)
  g__law_with_bound : mg "_law_with_bound" = some (.ref cs.c__law_with_bound)
  g__law_with_heaps : mg "_law_with_heaps" = some (.ref cs.c__law_with_heaps)
  g__law_with_taking : mg "_law_with_taking" = some (.ref cs.c__law_with_taking)
  g__law_with_number : mg "_law_with_number" = some (.ref cs.c__law_with_number)
  x_BB : PySem.W.excIn K cs.c_BadBound [.type "ValueError", .type "Exception", .type "BaseException", .type "object"] "ValueError.__new__" = true
  kp_BB : PySem.W.keepIn K (.ref cs.c_BadBound) = true
  b_BB : PySem.W.subIn K (.ref cs.c_BadBound) (.type "BaseException") = some true
  t_BB : PySem.W.typeIn K (.ref cs.c_BadBound) = some (.type "type")
  e_BB : PySem.W.exmOne K (.ref cs.c_BadBound) (.ref cs.c_HeapError) = some true
  i_BB : ExcC K cs.c_BadBound
  v_BB : PySem.W.kitOne K (.ref cs.c_BadBound) (.type "ValueError") = some true
  k_BB_BB : PySem.W.kitOne K (.ref cs.c_BadBound) (.ref cs.c_BadBound) = some true
  k_BB_BH : PySem.W.kitOne K (.ref cs.c_BadBound) (.ref cs.c_BadHeaps) = some false
  k_BB_BT : PySem.W.kitOne K (.ref cs.c_BadBound) (.ref cs.c_BadTaking) = some false
  k_BB_BN : PySem.W.kitOne K (.ref cs.c_BadBound) (.ref cs.c_BadNumber) = some false
  x_BH : PySem.W.excIn K cs.c_BadHeaps [.type "ValueError", .type "Exception", .type "BaseException", .type "object"] "ValueError.__new__" = true
  kp_BH : PySem.W.keepIn K (.ref cs.c_BadHeaps) = true
  b_BH : PySem.W.subIn K (.ref cs.c_BadHeaps) (.type "BaseException") = some true
  t_BH : PySem.W.typeIn K (.ref cs.c_BadHeaps) = some (.type "type")
  e_BH : PySem.W.exmOne K (.ref cs.c_BadHeaps) (.ref cs.c_HeapError) = some true
  i_BH : ExcC K cs.c_BadHeaps
  v_BH : PySem.W.kitOne K (.ref cs.c_BadHeaps) (.type "ValueError") = some true
  k_BH_BB : PySem.W.kitOne K (.ref cs.c_BadHeaps) (.ref cs.c_BadBound) = some false
  k_BH_BH : PySem.W.kitOne K (.ref cs.c_BadHeaps) (.ref cs.c_BadHeaps) = some true
  k_BH_BT : PySem.W.kitOne K (.ref cs.c_BadHeaps) (.ref cs.c_BadTaking) = some false
  k_BH_BN : PySem.W.kitOne K (.ref cs.c_BadHeaps) (.ref cs.c_BadNumber) = some false
  x_BT : PySem.W.excIn K cs.c_BadTaking [.type "ValueError", .type "Exception", .type "BaseException", .type "object"] "ValueError.__new__" = true
  kp_BT : PySem.W.keepIn K (.ref cs.c_BadTaking) = true
  b_BT : PySem.W.subIn K (.ref cs.c_BadTaking) (.type "BaseException") = some true
  t_BT : PySem.W.typeIn K (.ref cs.c_BadTaking) = some (.type "type")
  e_BT : PySem.W.exmOne K (.ref cs.c_BadTaking) (.ref cs.c_HeapError) = some true
  i_BT : ExcC K cs.c_BadTaking
  v_BT : PySem.W.kitOne K (.ref cs.c_BadTaking) (.type "ValueError") = some true
  k_BT_BB : PySem.W.kitOne K (.ref cs.c_BadTaking) (.ref cs.c_BadBound) = some false
  k_BT_BH : PySem.W.kitOne K (.ref cs.c_BadTaking) (.ref cs.c_BadHeaps) = some false
  k_BT_BT : PySem.W.kitOne K (.ref cs.c_BadTaking) (.ref cs.c_BadTaking) = some true
  k_BT_BN : PySem.W.kitOne K (.ref cs.c_BadTaking) (.ref cs.c_BadNumber) = some false
  x_BN : PySem.W.excIn K cs.c_BadNumber [.type "ValueError", .type "Exception", .type "BaseException", .type "object"] "ValueError.__new__" = true
  kp_BN : PySem.W.keepIn K (.ref cs.c_BadNumber) = true
  b_BN : PySem.W.subIn K (.ref cs.c_BadNumber) (.type "BaseException") = some true
  t_BN : PySem.W.typeIn K (.ref cs.c_BadNumber) = some (.type "type")
  e_BN : PySem.W.exmOne K (.ref cs.c_BadNumber) (.ref cs.c_HeapError) = some true
  i_BN : ExcC K cs.c_BadNumber
  v_BN : PySem.W.kitOne K (.ref cs.c_BadNumber) (.type "ValueError") = some true
  k_BN_BB : PySem.W.kitOne K (.ref cs.c_BadNumber) (.ref cs.c_BadBound) = some false
  k_BN_BH : PySem.W.kitOne K (.ref cs.c_BadNumber) (.ref cs.c_BadHeaps) = some false
  k_BN_BT : PySem.W.kitOne K (.ref cs.c_BadNumber) (.ref cs.c_BadTaking) = some false
  k_BN_BN : PySem.W.kitOne K (.ref cs.c_BadNumber) (.ref cs.c_BadNumber) = some true
end text
/-- what refuses bound, heaps, taking, and with which class -/
def Fail (cs : Cs) (H : Hp) (b h t : V) (D : Addr) : Prop :=
  (Bn H b ∧ D = cs.c_BadBound) ∨ ((∃ i : Int, b = .int i ∧ 1 ≤ i) ∧ Hn H h ∧ D = cs.c_BadHeaps) ∨
  ((∃ i : Int, b = .int i ∧ 1 ≤ i) ∧ (∃ (p : Addr) (i j : Int), h = .ref p ∧ H p = some (.tup [.int i, .int j]) ∧ 0 ≤ i ∧ 0 ≤ j) ∧ Pn H t ∧ D = cs.c_BadTaking)
/-- the answers of _law_kinds -/
def DueV (n : Nat) : List V := [.bl (decide (n = 0)), .bl (decide (n = 1)), .bl (decide (n = 2)), .bl (decide (n = 3)), .bl true]
def excOf (cs : Cs) : Nat → Addr
  | 0 => cs.c_BadBound
  | 1 => cs.c_BadHeaps
  | 2 => cs.c_BadTaking
  | _ => cs.c_BadNumber
def AskC (cs : Cs) (H : Hp) (f : Addr) (d : Int) (v : V) (n : Nat) : Prop :=
  (f = cs.c__law_with_bound ∧ Bn H v ∧ n = 0) ∨ (f = cs.c__law_with_heaps ∧ Hn H v ∧ n = 1) ∨
  (f = cs.c__law_with_taking ∧ (Pn H v ∨ (d ≠ 0 ∧ ∃ (q : Addr) (u w : Int), v = .ref q ∧ H q = some (.tup [.int u, .int w]) ∧ ¬ Th.may 2 5 7 u w)) ∧ n = 2) ∨
  (f = cs.c__law_with_number ∧ ((d = 0 ∧ Nn H v 0) ∨ (d ≠ 0 ∧ Nn H v 1)) ∧ n = 3)
theorem AskC.mono {cs : Cs} {H H' : Hp} {f : Addr} {d : Int} {v : V} {n : Nat} (e : Evl.Ex H H') (h : AskC cs H f d v n) : AskC cs H' f d v n := by
  rcases h with ⟨a, b, c⟩ | ⟨a, b, c⟩ | ⟨a, b | ⟨b1, q, u, w, b2, b3, b4⟩, c⟩ | ⟨a, ⟨b1, b2⟩ | ⟨b1, b2⟩, c⟩
  · exact .inl ⟨a, b.mono e, c⟩
  · exact .inr (.inl ⟨a, b.mono e, c⟩)
  · exact .inr (.inr (.inl ⟨a, .inl (b.mono e), c⟩))
  · exact .inr (.inr (.inl ⟨a, .inr ⟨b1, q, u, w, b2, e _ _ b3, b4⟩, c⟩))
  · exact .inr (.inr (.inr ⟨a, .inl ⟨b1, b2.mono e⟩, c⟩))
  · exact .inr (.inr (.inr ⟨a, .inr ⟨b1, b2.mono e⟩, c⟩))

/-- what _law_kinds finds, told of the exception's place, class, dict -/
def spK (K : PySem.W.Frag) (cs : Cs) (a : Addr) (cls : Value) (d : Option Addr) : Sp := fun vs H Q E => ∃ n : Nat, vs = [.ref a] ∧ n ≤ 3 ∧ cls = .ref (excOf cs n) ∧ d = none ∧ ∀ r H', Evl.Ex H H' → H' r = some (.lst (DueV n)) → Q (.ref r) H'

theorem due_ne {H : Hp} {dd r : Addr} {rs : List Addr} {j : Nat} (h1 : H dd = some (.lst (rs.map V.ref))) (h2 : H r = some (.lst (DueV j))) : r ≠ dd := by
  rintro rfl
  rw [h1] at h2
  cases rs <;> simp [DueV] at h2
theorem due_of {n : Nat} (h : n < 4) : [V.bl (decide ((0 + (n : Int)) = 0)), .bl (decide ((0 + (n : Int)) = 1)), .bl (decide ((0 + (n : Int)) = 2)), .bl (decide ((0 + (n : Int)) = 3)), .bl true] = DueV n := by
  match n, h with
  | 0, _ => rfl
  | 1, _ => rfl
  | 2, _ => rfl
  | 3, _ => rfl
/-- what is neither whole nor a number from 0 on -/
def Ng (H : Hp) (x : V) : Prop := Wn H x ∨ ∃ i : Int, x = .int i ∧ i < 0
theorem Ng.mono {H H' : Hp} {v : V} (e : Evl.Ex H H') (h : Ng H v) : Ng H' v := h.elim (fun h => .inl (h.mono e)) .inr
theorem Ng.bound {H : Hp} {v : V} (h : Ng H v) : Bn H v := h.elim .inl fun ⟨i, e, z⟩ => .inr ⟨i, e, by omega⟩
theorem Ng.number {H : Hp} {v : V} {f : Int} (hf : 0 ≤ f) (h : Ng H v) : Nn H v f := h.elim .inl fun ⟨i, e, z⟩ => .inr ⟨i, e, by omega⟩
def strangeV (far : Int) (l1 t1 d1 : Addr) : List V := [.non, .str "1", .bl true, .bl false, .ref l1, .ref t1, .ref d1, .int (-1), .int (-1 - far)]
def strange7 (l1 t1 d1 : Addr) : List V := [.non, .str "1", .bl true, .bl false, .ref l1, .ref t1, .ref d1]
theorem cut7 {far : Int} {l1 t1 d1 : Addr} : cutV (strangeV far l1 t1 d1) none (some 7) = strange7 l1 t1 d1 := rfl
theorem strange_wn {H : Hp} {l1 t1 d1 : Addr} {xs ys : List V} {kvs : List (Key × V)} (hl : H l1 = some (.lst xs)) (ht : H t1 = some (.tup ys)) (hd : H d1 = some (.dK kvs)) : ∀ x ∈ strange7 l1 t1 d1, Wn H x := by
  intro x hx
  unfold strange7 at hx
  simp only [List.mem_cons, List.not_mem_nil, or_false] at hx
  rcases hx with rfl | rfl | rfl | rfl | rfl | rfl | rfl
  · exact ⟨_, .non, by decide⟩
  · exact ⟨_, .str _, by decide⟩
  · exact ⟨_, .bl _, by decide⟩
  · exact ⟨_, .bl _, by decide⟩
  · exact ⟨_, .lst hl, by decide⟩
  · exact ⟨_, .tup ht, by decide⟩
  · exact ⟨_, .dK hd, by decide⟩
theorem strange_ng {H : Hp} {far : Int} {l1 t1 d1 : Addr} {xs ys : List V} {kvs : List (Key × V)} (h0 : 0 ≤ far) (hl : H l1 = some (.lst xs)) (ht : H t1 = some (.tup ys)) (hd : H d1 = some (.dK kvs)) : ∀ x ∈ strangeV far l1 t1 d1, Ng H x := by
  intro x hx
  have e : strangeV far l1 t1 d1 = strange7 l1 t1 d1 ++ [.int (-1), .int (-1 - far)] := rfl
  rw [e] at hx
  rcases List.mem_append.mp hx with hx | hx
  · exact .inl (strange_wn hl ht hd x hx)
  · simp only [List.mem_cons, List.not_mem_nil, or_false] at hx
    rcases hx with rfl | rfl
    · exact .inr ⟨_, rfl, by decide⟩
    · exact .inr ⟨_, rfl, by omega⟩
/-- new tuples, each of a thing of xs -/
def Tups (H : Hp) (f : V → List V) (xs ts : List V) : Prop := ∀ t ∈ ts, ∃ (q : Addr) (x : V), t = .ref q ∧ x ∈ xs ∧ H q = some (.tup (f x))
theorem Tups.mono {H H' : Hp} {f : V → List V} {xs ts : List V} (e : Evl.Ex H H') (h : Tups H f xs ts) : Tups H' f xs ts := fun t ht => by
  obtain ⟨q, x, a, b, c⟩ := h t ht
  exact ⟨q, x, a, b, e _ _ c⟩
theorem tups_nil {H : Hp} {f : V → List V} {xs : List V} : Tups H f xs [] := fun _ h => nomatch h
theorem tups_step {H2 H3 : Hp} {D q : Addr} {f : V → List V} {xs ts : List V} {x : V} (h : Tups H2 f xs ts) (hD : H2 D = some (.lst ts)) (e : Evl.Ex H2 H3) (hq : H3 q = some (.tup (f x))) (hx : x ∈ xs) : Tups (upd H3 D (.lst (ts ++ [.ref q]))) f xs (ts ++ [.ref q]) := by
  have hD3 := e _ _ hD
  have ne : ∀ q ys, H3 q = some (.tup ys) → q ≠ D := fun q ys h z => by
    rw [z, hD3] at h
    cases h
  intro t ht
  rcases List.mem_append.mp ht with ht | ht
  · obtain ⟨q', x', a, b, c⟩ := h t ht
    refine ⟨q', x', a, b, ?_⟩
    rw [upd_ne (ne _ _ (e _ _ c))]
    exact e _ _ c
  · rw [List.mem_singleton] at ht
    exact ⟨q, x, ht, hx, by rw [upd_ne (ne _ _ hq)]; exact hq⟩

def repD : PyData := .list [.bool false, .bool false, .bool false, .bool false, .bool false, .bool false, .bool false, .bool false, .bool false, .bool false]
theorem rep_dp {K : PySem.W.Frag} {H : Hp} {a : Addr} (h : H a = some (.lst (List.replicate 10 (V.bl false)))) : Dp K H (.ref a) repD :=
  .lst (SqL.of h) (.cons (.bl _) (.cons (.bl _) (.cons (.bl _) (.cons (.bl _) (.cons (.bl _) (.cons (.bl _) (.cons (.bl _) (.cons (.bl _) (.cons (.bl _) (.cons (.bl _) .nil))))))))))
theorem rep_sh : SeqAt.shaped repD = true := by
  unfold SeqAt.shaped repD
  simp [PyData.canLay0, PyData.canLayAll0, PyData.depth, PyData.depthAll]
theorem rep_eqv : PyData.eqv repD repD = true := by
  unfold repD
  simp [PyData.eqv, PyData.eqvAll]
def cs0 : Cs := ⟨0, 0, 0, 0, 0, 0, 0, 0, 0⟩
section
variable {P : Program} {w : World} {K : PySem.W.Frag} {mg : Str → Option Value} {base : Heap} {cs : Cs}
-- is_whole: slots 0 value
abbrev s_is_whole : Stmt := top 9
theorem sc_is_whole : FnScope ["value"] ["value"] (defScope s_is_whole) := ⟨rfl, rfl, rfl, by decide +kernel, rfl, by decide +kernel, by decide +kernel⟩
def sp_is_whole (K : PySem.W.Frag) (cs : Cs) : Sp := fun vs H Q E => ∃ v : V, vs = [v] ∧ ((∃ i : Int, v = .int i ∧ Q (.bl true) H) ∨ (Wn H v ∧ Q (.bl false) H))
theorem ok_is_whole {f : Addr} {fd : FuncData} (F : L2.Fun K "is_whole" "is_whole" s_is_whole f fd) (T : Txt K mg cs) : FnOk P w K mg base CX0 1 f fd ["value"] (sp_is_whole K cs) := by
  refine F.ok sc_is_whole (fun vs H Q E h => ?_) (fun cdv A outer s H vs Q E hr h => ?_)
  · obtain ⟨_, rfl, _⟩ := h
    rfl
  · obtain ⟨v, rfl, h⟩ := h
    refine ⟨_, (pss_one (ps_ret (pe_and (pe_callB cr_isKd (by rfl) T.n_isinstance (by decide +kernel) (pa_cons (pv 0) (pa_cons (pe_bltn (v := .ty "int") (u := .type "int") (by rfl) T.n_int (by decide +kernel) rfl) pa_nil))) (pe_one (pe_not (pe_callB cr_isKd (by rfl) T.n_isinstance (by decide +kernel) (pa_cons (pv 0) (pa_cons (pe_bltn (v := .ty "bool") (u := .type "bool") (by rfl) T.n_bool (by decide +kernel) rfl) pa_nil)))))))), ?_⟩
    rcases h with ⟨i, rfl, k⟩ | ⟨⟨S, hk, n⟩, k⟩
    · exact ⟨_, rfl, _, "int", "int", true, rfl, .int i, kb_ii, true, rfl, iteT ⟨_, rfl, _, "int", "bool", false, rfl, .int i, kb_ib, false, rfl, k⟩⟩
    · rcases hk.whole n with e | ⟨e1, e2⟩
      · exact ⟨_, rfl, _, S, "int", false, rfl, hk, e, false, rfl, iteF k⟩
      · exact ⟨_, rfl, _, S, "int", true, rfl, hk, e1, true, rfl, iteT ⟨_, rfl, _, S, "bool", true, rfl, hk, e2, true, rfl, k⟩⟩
-- _is_there: slots 0 heaps, 1 taking
abbrev s__is_there : Stmt := top 19
theorem sc__is_there : FnScope ["heaps", "taking"] ["heaps", "taking"] (defScope s__is_there) := ⟨rfl, rfl, rfl, by decide +kernel, rfl, by decide +kernel, by decide +kernel⟩
def sp__is_there (K : PySem.W.Frag) (cs : Cs) : Sp := fun vs H Q E => ∃ (p q : Addr) (i j u v : Int), vs = [.ref p, .ref q] ∧ H p = some (.tup [.int i, .int j]) ∧ H q = some (.tup [.int u, .int v]) ∧ Q (.bl (decide (0 ≤ u ∧ u ≤ i ∧ 0 ≤ v ∧ v ≤ j))) H
theorem ok__is_there {f : Addr} {fd : FuncData} (F : L2.Fun K "_is_there" "_is_there" s__is_there f fd) (T : Txt K mg cs) : FnOk P w K mg base CX0 1 f fd ["heaps", "taking"] (sp__is_there K cs) := by
  refine F.ok sc__is_there (fun vs H Q E h => ?_) (fun cdv A outer s H vs Q E hr h => ?_)
  · obtain ⟨_, _, _, _, _, _, rfl, _⟩ := h
    rfl
  · obtain ⟨p, q, i, j, u, v, rfl, hp, hq, k⟩ := h
    refine ⟨_, (pss_one (ps_ret (pe_and (pe_chain op_le op_le pe_int (pe_ix ix_tup (pv 1) pe_int (fun _ _ => rfl)) (pe_ix ix_tup (pv 0) pe_int (fun _ _ => rfl))) (pe_one (pe_chain op_le op_le pe_int (pe_ix ix_tup (pv 1) pe_int (fun _ _ => rfl)) (pe_ix ix_tup (pv 0) pe_int (fun _ _ => rfl))))))), ?_⟩
    have kk : ∀ c, decide (0 ≤ u ∧ u ≤ i ∧ 0 ≤ v ∧ v ≤ j) = c → Q (.bl c) H := fun c h => h ▸ k
    refine ⟨_, rfl, q, _, _, _, rfl, rfl, SqT.of hq, at0, _, _, rfl, rfl, _, rfl, if2 (fun c1 => ⟨_, rfl, p, _, _, _, rfl, rfl, SqT.of hp, at0, _, _, rfl, rfl, _, rfl, if2 (fun c2 => ⟨_, rfl, q, _, _, _, rfl, rfl, SqT.of hq, at1, _, _, rfl, rfl, _, rfl, if2 (fun c3 => ⟨_, rfl, p, _, _, _, rfl, rfl, SqT.of hp, at1, _, _, rfl, rfl, ?_⟩) (fun c3 => ?_)⟩) (fun c2 => ?_)⟩) (fun c1 => ⟨_, rfl, iteF ?_⟩)⟩
    · have c1' := of_decide_eq_true c1
      have c2' := of_decide_eq_true c2
      have c3' := of_decide_eq_true c3
      exact kk _ (decide_eq_decide.mpr (by omega))
    · have c3' := of_decide_eq_false c3
      exact kk _ (decide_eq_false (by omega))
    · have c2' := of_decide_eq_false c2
      exact kk _ (decide_eq_false (by omega))
    · have c1' := of_decide_eq_false c1
      exact kk _ (decide_eq_false (by omega))
-- _is_let: slots 0 bound, 1 taking
abbrev s__is_let : Stmt := top 20
theorem sc__is_let : FnScope ["bound", "taking"] ["bound", "taking"] (defScope s__is_let) := ⟨rfl, rfl, rfl, by decide +kernel, rfl, by decide +kernel, by decide +kernel⟩
def sp__is_let (K : PySem.W.Frag) (cs : Cs) : Sp := fun vs H Q E => ∃ (b : Int) (q : Addr) (u v : Int), vs = [.int b, .ref q] ∧ H q = some (.tup [.int u, .int v]) ∧ Q (.bl (decide (((u = 0 ∨ v = 0) ∧ u ≠ v) ∨ (u ≠ 0 ∧ v ≠ 0 ∧ Th.ab (u - v) < b)))) H
theorem ok__is_let {f : Addr} {fd : FuncData} (F : L2.Fun K "_is_let" "_is_let" s__is_let f fd) (T : Txt K mg cs) : FnOk P w K mg base CX0 1 f fd ["bound", "taking"] (sp__is_let K cs) := by
  refine F.ok sc__is_let (fun vs H Q E h => ?_) (fun cdv A outer s H vs Q E hr h => ?_)
  · obtain ⟨_, _, _, _, rfl, _⟩ := h
    rfl
  · obtain ⟨b, q, u, v, rfl, hq, k⟩ := h
    refine ⟨_, (pss_cons (ps_if (PW.pt (pw_or (pt_cmp (pc_eqI (pe_ix ix_tup (pv 1) pe_int (fun _ _ => rfl)) pe_int)) (pw_or1 (pt_cmp (pc_eqI (pe_ix ix_tup (pv 1) pe_int (fun _ _ => rfl)) pe_int))))) (pss_one (ps_ret (pe_cmp (pc_neI (pe_ix ix_tup (pv 1) pe_int (fun _ _ => rfl)) (pe_ix ix_tup (pv 1) pe_int (fun _ _ => rfl)))))) pss_nil) (pss_one (ps_ret (pe_cmp (pc_lt (pe_callB call_abs (by rfl) T.n_abs (by decide +kernel) (pa_cons (pe_op op_sub (pe_ix ix_tup (pv 1) pe_int (fun _ _ => rfl)) (pe_ix ix_tup (pv 1) pe_int (fun _ _ => rfl))) pa_nil)) (pv 0)))))), ?_⟩
    have kk : ∀ c, decide (((u = 0 ∨ v = 0) ∧ u ≠ v) ∨ (u ≠ 0 ∧ v ≠ 0 ∧ Th.ab (u - v) < b)) = c → Q (.bl c) H := fun c h => h ▸ k
    have diff : (u = 0 ∨ v = 0) → tRet (tNeI (tOp (rIxT K) (tVar 1) (tC (.int 0))) (tOp (rIxT K) (tVar 1) (tC (.int 1)))) { nx := fun _ H' => Q .non H', rt := Q } (start ["bound", "taking"] [.int b, .ref q]) H := fun c => by
      refine ⟨_, rfl, q, _, _, _, rfl, rfl, SqT.of hq, at0, _, rfl, q, _, _, _, rfl, rfl, SqT.of hq, at1, _, _, rfl, rfl, ?_⟩
      refine kk _ ?_
      by_cases d : u = v
      · exact (decide_eq_false (by omega)).trans (nd d).symm
      · exact (decide_eq_true (.inl ⟨c, d⟩)).trans (nd1 d).symm
    refine ⟨_, rfl, q, _, _, _, rfl, rfl, SqT.of hq, at0, _, _, rfl, rfl, _, rfl, if2 (fun c1 => ifT rfl (diff (.inl (of_decide_eq_true c1)))) (fun c1 => ⟨_, rfl, q, _, _, _, rfl, rfl, SqT.of hq, at1, _, _, rfl, rfl, _, rfl, if2 (fun c2 => diff (.inr (of_decide_eq_true c2))) (fun c2 => ?_)⟩)⟩
    have c1' := of_decide_eq_false c1
    have c2' := of_decide_eq_false c2
    refine ⟨_, rfl, q, _, _, _, rfl, rfl, SqT.of hq, at0, _, rfl, q, _, _, _, rfl, rfl, SqT.of hq, at1, _, _, rfl, rfl, _, rfl, _, rfl, _, _, rfl, rfl, ?_⟩
    exact kk _ (decide_eq_decide.mpr ⟨fun h => h.elim (fun h => absurd h.1 (by omega)) (fun h => h.2.2), fun h => .inr ⟨c1', c2', h⟩⟩)
-- _law_cell_at: slots 0 script, 1 k
abbrev s__law_cell_at : Stmt := top 36
theorem sc__law_cell_at : FnScope ["_law_script", "_law_k"] ["_law_script", "_law_k"] (defScope s__law_cell_at) := ⟨rfl, rfl, rfl, by decide +kernel, rfl, by decide +kernel, by decide +kernel⟩
def sp__law_cell_at (K : PySem.W.Frag) (cs : Cs) : Sp := fun vs H Q E => ∃ (a : Addr) (ns : List Int) (k : Int), vs = [.ref a, .int k] ∧ SqL K H a (ns.map V.int) ∧ 0 ≤ k ∧ Q (.int (ns.getD k.toNat 0)) H
theorem ok__law_cell_at {f : Addr} {fd : FuncData} (F : L2.Fun K "_law_cell_at" "_law_cell_at" s__law_cell_at f fd) (T : Txt K mg cs) : FnOk P w K mg base CX0 1 f fd ["_law_script", "_law_k"] (sp__law_cell_at K cs) := by
  refine F.ok sc__law_cell_at (fun vs H Q E h => ?_) (fun cdv A outer s H vs Q E hr h => ?_)
  · obtain ⟨_, _, _, rfl, _⟩ := h
    rfl
  · obtain ⟨a, ns, j, rfl, hs, h0, k⟩ := h
    refine ⟨_, (pss_cons (ps_if (pt_cmp (pc_lt (pv 1) (pe_callB call_len_seq (by rfl) T.n_len (by decide +kernel) (pa_cons (pv 0) pa_nil)))) (pss_one (ps_ret (pe_ix ix_list (pv 0) (pv 1) (fun _ _ => rfl)))) pss_nil) (pss_one (ps_ret pe_int))), ?_⟩
    refine ⟨_, rfl, _, rfl, a, _, rfl, .inl hs, _, _, rfl, rfl, _, rfl, ?_⟩
    by_cases c : j < (ns.map V.int).length
    · exact ifT (decide_eq_true c) ⟨_, rfl, _, rfl, a, _, _, _, rfl, rfl, hs, at_cell h0 c, k⟩
    · rw [cell_out c] at k
      exact ifF (decide_eq_false c) k
-- _law_kinds: slots 0 error, 1 found
abbrev s__law_kinds : Stmt := top 37
theorem sc__law_kinds : FnScope ["_law_error", "_law_found"] ["_law_error"] (defScope s__law_kinds) := ⟨rfl, rfl, rfl, by decide +kernel, rfl, by decide +kernel, by decide +kernel⟩
def sp__law_kinds (K : PySem.W.Frag) (cs : Cs) (p : Addr × Obj) : Sp := fun vs H Q E => spK K cs p.1 p.2.cls p.2.dict vs H Q E
theorem ok__law_kinds {f : Addr} {fd : FuncData} (F : L2.Fun K "_law_kinds" "_law_kinds" s__law_kinds f fd) (T : Txt K mg cs) : FnP P w K mg base 1 f fd ["_law_error"] (sp__law_kinds K cs) := by
  refine okP F sc__law_kinds (fun p vs H Q E h => ?_) (fun cdv A outer s H vs Q p hot hr h => ?_)
  · obtain ⟨_, rfl, _⟩ := h
    rfl
  · obtain ⟨n, rfl, hn, hc, hd, k⟩ := h
    have hf : ∃ vs, p.2.data = .fields vs := hot.2.elim fun vs z => ⟨vs, z.1⟩
    obtain ⟨D, hD, hC, k1, k2, k3, k4, k5⟩ : ∃ D, excOf cs n = D ∧ ExcC K D ∧ PySem.W.kitOne K (.ref D) (.ref cs.c_BadBound) = some (decide (n = 0)) ∧ PySem.W.kitOne K (.ref D) (.ref cs.c_BadHeaps) = some (decide (n = 1)) ∧ PySem.W.kitOne K (.ref D) (.ref cs.c_BadTaking) = some (decide (n = 2)) ∧ PySem.W.kitOne K (.ref D) (.ref cs.c_BadNumber) = some (decide (n = 3)) ∧ PySem.W.kitOne K (.ref D) (.type "ValueError") = some true := by
      match n, hn with
      | 0, _ => exact ⟨_, rfl, T.i_BB, T.k_BB_BB, T.k_BB_BH, T.k_BB_BT, T.k_BB_BN, T.v_BB⟩
      | 1, _ => exact ⟨_, rfl, T.i_BH, T.k_BH_BB, T.k_BH_BH, T.k_BH_BT, T.k_BH_BN, T.v_BH⟩
      | 2, _ => exact ⟨_, rfl, T.i_BT, T.k_BT_BB, T.k_BT_BH, T.k_BT_BT, T.k_BT_BN, T.v_BT⟩
      | 3, _ => exact ⟨_, rfl, T.i_BN, T.k_BN_BB, T.k_BN_BH, T.k_BN_BT, T.k_BN_BN, T.v_BN⟩
    rw [hD] at hc
    refine ⟨_, (pss_cons (ps_set (i := 1) sc__law_kinds.nd rfl (Or.inl rfl) (pe_lstE (pa_cons (pe_callB (cr_isP List.mem_cons_self hC hc hd hf) (by rfl) T.n_isinstance (by decide +kernel) (pa_cons (pv 0) (pa_cons (pe_glob (v := .ref cs.c_BadBound) (by rfl) T.g_BadBound rfl) pa_nil))) (pa_cons (pe_callB (cr_isP List.mem_cons_self hC hc hd hf) (by rfl) T.n_isinstance (by decide +kernel) (pa_cons (pv 0) (pa_cons (pe_glob (v := .ref cs.c_BadHeaps) (by rfl) T.g_BadHeaps rfl) pa_nil))) (pa_cons (pe_callB (cr_isP List.mem_cons_self hC hc hd hf) (by rfl) T.n_isinstance (by decide +kernel) (pa_cons (pv 0) (pa_cons (pe_glob (v := .ref cs.c_BadTaking) (by rfl) T.g_BadTaking rfl) pa_nil))) pa_nil))))) (pss_one (ps_ret (pe_op op_cat (pv 1) (pe_lstE (pa_cons (pe_callB (cr_isP List.mem_cons_self hC hc hd hf) (by rfl) T.n_isinstance (by decide +kernel) (pa_cons (pv 0) (pa_cons (pe_glob (v := .ref cs.c_BadNumber) (by rfl) T.g_BadNumber rfl) pa_nil))) (pa_cons (pe_callB (cr_isP List.mem_cons_self hC hc hd hf) (by rfl) T.n_isinstance (by decide +kernel) (pa_cons (pv 0) (pa_cons (pe_bltn (v := .ty "ValueError") (u := .type "ValueError") (by rfl) T.n_ValueError (by decide +kernel) rfl) pa_nil))) pa_nil))))))), ?_⟩
    refine ⟨_, rfl, _, _, _, rfl, fun u hu => hu, k1, _, rfl, _, _, _, rfl, fun u hu => hu, k2, _, rfl, _, _, _, rfl, fun u hu => hu, k3, (by show 3 ≤ sizeLine; decide), fun l H1 e1 hl nl => ?_⟩
    refine ⟨_, rfl, _, rfl, _, _, _, rfl, fun u hu => hu, k4, _, rfl, _, _, _, rfl, fun u hu => hu, k5, (by show 2 ≤ sizeLine; decide), fun l2 H2 e2 hl2 nl2 => ?_⟩
    exact ⟨l, l2, _, _, rfl, rfl, e2 _ _ hl, hl2, (by show 3 + 2 ≤ sizeLine; decide), fun r hr => k r _ (e1.trans (e2.trans (ex_new hr))) upd_same⟩
-- is_pair: slots 0 value
abbrev s_is_pair : Stmt := top 10
theorem sc_is_pair : FnScope ["value"] ["value"] (defScope s_is_pair) := ⟨rfl, rfl, rfl, by decide +kernel, rfl, by decide +kernel, by decide +kernel⟩
def sp_is_pair (K : PySem.W.Frag) (cs : Cs) : Sp := fun vs H Q E => ∃ v : V, vs = [v] ∧ ((∃ (p : Addr) (i j : Int), v = .ref p ∧ H p = some (.tup [.int i, .int j]) ∧ Q (.bl true) H) ∨ (Pn H v ∧ Q (.bl false) H))
theorem ok_is_pair {f : Addr} {fd : FuncData} (F : L2.Fun K "is_pair" "is_pair" s_is_pair f fd) (T : Txt K mg cs)
    (c_is_whole : C8.Cal P w K mg base 1 "is_whole" (sp_is_whole K cs) []) : FnOk P w K mg base CX0 2 f fd ["value"] (sp_is_pair K cs) := by
  refine F.ok sc_is_pair (fun vs H Q E h => ?_) (fun cdv A outer s H vs Q E hr h => ?_)
  · obtain ⟨_, rfl, _⟩ := h
    rfl
  · obtain ⟨v, rfl, h⟩ := h
    refine ⟨_, (pss_cons (ps_if (PW.pt (pw_or (pt_not (pt_val (pe_callB cr_isKd (by rfl) T.n_isinstance (by decide +kernel) (pa_cons (pv 0) (pa_cons (pe_bltn (v := .ty "tuple") (u := .type "tuple") (by rfl) T.n_tuple (by decide +kernel) rfl) pa_nil))))) (pw_or1 (pt_cmp (pc_neI (pe_callB call_len_seq (by rfl) T.n_len (by decide +kernel) (pa_cons (pv 0) pa_nil)) pe_int))))) (pss_one (ps_ret pe_bl)) pss_nil) (pss_one (ps_ret (pe_and (C8.pe_c c_is_whole hr (by decide) (by rfl) (pa_cons (pe_ix ix_tup (pv 0) pe_int (fun _ _ => rfl)) pa_nil)) (pe_one (C8.pe_c c_is_whole hr (by decide) (by rfl) (pa_cons (pe_ix ix_tup (pv 0) pe_int (fun _ _ => rfl)) pa_nil))))))), ?_⟩
    have h2 : (∃ S, Kd H v S ∧ S ≠ "tuple" ∧ Q (.bl false) H) ∨ ∃ p xs, v = .ref p ∧ H p = some (.tup xs) ∧ (xs.length ≠ 2 → Q (.bl false) H) ∧ (∀ x y, xs = [x, y] → ((∃ i : Int, x = .int i ∧ ((∃ j : Int, y = .int j ∧ Q (.bl true) H) ∨ (Wn H y ∧ Q (.bl false) H))) ∨ (Wn H x ∧ Q (.bl false) H))) := by
      rcases h with ⟨p, i, j, rfl, hp, k⟩ | ⟨⟨S, hk, n⟩ | ⟨p, xs, rfl, hp, z⟩, k⟩
      · refine .inr ⟨p, _, rfl, hp, fun z => absurd rfl z, fun x y e => ?_⟩
        cases e
        exact .inl ⟨i, rfl, .inl ⟨j, rfl, k⟩⟩
      · exact .inl ⟨S, hk, n, k⟩
      · refine .inr ⟨p, xs, rfl, hp, fun _ => k, fun x y e => ?_⟩
        subst e
        rcases z with z | ⟨x', y', z, w | ⟨⟨i, w1⟩, w2⟩⟩
        · exact absurd rfl z
        · cases z
          exact .inr ⟨w, k⟩
        · cases z
          exact .inl ⟨i, w1, .inr ⟨w2, k⟩⟩
    rcases h2 with ⟨S, hk, n, k⟩ | ⟨p, xs, rfl, hp, h1, h2⟩
    · exact ⟨_, rfl, _, S, "tuple", false, rfl, hk, hk.notup n, false, rfl, iteT (iteT k)⟩
    refine ⟨_, rfl, _, "tuple", "tuple", true, rfl, .tup hp, kb_tt, true, rfl, iteF ⟨_, rfl, p, _, rfl, .inr (SqT.of hp), _, _, rfl, rfl, _, rfl, ?_⟩⟩
    by_cases c : xs.length = 2
    · obtain ⟨x, y, rfl⟩ : ∃ x y, xs = [x, y] := by
        match xs, c with
        | [x, y], _ => exact ⟨x, y, rfl⟩
      refine ifF (nd rfl) ?_
      rcases h2 x y rfl with ⟨i, rfl, ⟨j, rfl, k⟩ | ⟨w, k⟩⟩ | ⟨w, k⟩
      · exact ⟨_, rfl, p, _, _, _, rfl, rfl, SqT.of hp, at0, _, rfl, .inl ⟨i, rfl, true, rfl, iteT ⟨_, rfl, p, _, _, _, rfl, rfl, SqT.of hp, at1, _, rfl, .inl ⟨j, rfl, k⟩⟩⟩⟩
      · exact ⟨_, rfl, p, _, _, _, rfl, rfl, SqT.of hp, at0, _, rfl, .inl ⟨i, rfl, true, rfl, iteT ⟨_, rfl, p, _, _, _, rfl, rfl, SqT.of hp, at1, _, rfl, .inr ⟨w, k⟩⟩⟩⟩
      · exact ⟨_, rfl, p, _, _, _, rfl, rfl, SqT.of hp, at0, _, rfl, .inr ⟨w, false, rfl, iteF k⟩⟩
    · exact ifT (nd1 (fun e => c (by omega))) (h1 c)
-- is_bound: slots 0 value
abbrev s_is_bound : Stmt := top 11
theorem sc_is_bound : FnScope ["value"] ["value"] (defScope s_is_bound) := ⟨rfl, rfl, rfl, by decide +kernel, rfl, by decide +kernel, by decide +kernel⟩
def sp_is_bound (K : PySem.W.Frag) (cs : Cs) : Sp := fun vs H Q E => ∃ v : V, vs = [v] ∧ ((∃ i : Int, v = .int i ∧ 1 ≤ i ∧ Q (.bl true) H) ∨ (Bn H v ∧ Q (.bl false) H))
theorem ok_is_bound {f : Addr} {fd : FuncData} (F : L2.Fun K "is_bound" "is_bound" s_is_bound f fd) (T : Txt K mg cs)
    (c_is_whole : C8.Cal P w K mg base 1 "is_whole" (sp_is_whole K cs) []) : FnOk P w K mg base CX0 2 f fd ["value"] (sp_is_bound K cs) := by
  refine F.ok sc_is_bound (fun vs H Q E h => ?_) (fun cdv A outer s H vs Q E hr h => ?_)
  · obtain ⟨_, rfl, _⟩ := h
    rfl
  · obtain ⟨v, rfl, h⟩ := h
    refine ⟨_, (pss_one (ps_ret (pe_and (C8.pe_c c_is_whole hr (by decide) (by rfl) (pa_cons (pv 0) pa_nil)) (pe_one (pe_cmp (pc_ge (pv 0) pe_int)))))), ?_⟩
    rcases h with ⟨i, rfl, hi, k⟩ | ⟨w | ⟨i, rfl, hi⟩, k⟩
    · exact ⟨_, rfl, _, rfl, .inl ⟨i, rfl, true, rfl, iteT ⟨_, rfl, _, _, rfl, rfl, bt (Q := Q) (decide_eq_true hi) k⟩⟩⟩
    · exact ⟨_, rfl, _, rfl, .inr ⟨w, false, rfl, iteF k⟩⟩
    · exact ⟨_, rfl, _, rfl, .inl ⟨i, rfl, true, rfl, iteT ⟨_, rfl, _, _, rfl, rfl, bf (Q := Q) (decide_eq_false (by omega)) k⟩⟩⟩
-- check_number: slots 0 number, 1 first
abbrev s_check_number : Stmt := top 15
theorem sc_check_number : FnScope ["number", "first"] ["number", "first"] (defScope s_check_number) := ⟨rfl, rfl, rfl, by decide +kernel, rfl, by decide +kernel, by decide +kernel⟩
def sp_check_number (K : PySem.W.Frag) (cs : Cs) : Sp := fun vs H Q E => ∃ (v : V) (f : Int), vs = [v, .int f] ∧ ((∃ i : Int, v = .int i ∧ f ≤ i ∧ Q .non H) ∨ (Nn H v f ∧ E (.ref cs.c_BadNumber) none H))
theorem ok_check_number {f : Addr} {fd : FuncData} (F : L2.Fun K "check_number" "check_number" s_check_number f fd) (T : Txt K mg cs)
    (c_is_whole : C8.Cal P w K mg base 1 "is_whole" (sp_is_whole K cs) []) : FnOk P w K mg base (L2N.CX P w) 2 f fd ["number", "first"] (sp_check_number K cs) := by
  refine okN F sc_check_number (fun vs H Q E h => ?_) (fun cdv A outer s H vs Q E hr h => ?_)
  · obtain ⟨_, _, rfl, _⟩ := h
    rfl
  · obtain ⟨v, f, rfl, h⟩ := h
    refine ⟨_, (pss_one (ps_if (PW.pt (pw_or (pt_not (pt_val (C8.pe_c c_is_whole hr (by decide) (by rfl) (pa_cons (pv 0) pa_nil)))) (pw_or1 (pt_cmp (pc_lt (pv 0) (pv 1)))))) (pss_one (L2N.ps_raise rfl (L2N.takes_of rfl rfl rfl rfl) (L2N.pmk_own PySem.F.excBase_ValueError T.x_BN T.g_BadNumber T.kp_BN (raises_own T.b_BN T.t_BN) (by exact rfl)))) pss_nil)), ?_⟩
    rcases h with ⟨i, rfl, hi, k⟩ | ⟨w | ⟨i, rfl, hi⟩, k⟩
    · exact ⟨_, rfl, _, rfl, .inl ⟨i, rfl, true, rfl, iteF ⟨_, rfl, _, rfl, _, _, rfl, rfl, _, rfl, ifF (decide_eq_false (by omega)) k⟩⟩⟩
    · exact ⟨_, rfl, _, rfl, .inr ⟨w, false, rfl, iteT (iteT k)⟩⟩
    · exact ⟨_, rfl, _, rfl, .inl ⟨i, rfl, true, rfl, iteF ⟨_, rfl, _, rfl, _, _, rfl, rfl, _, rfl, ifT (decide_eq_true (by omega)) k⟩⟩⟩
-- are_heaps: slots 0 value
abbrev s_are_heaps : Stmt := top 12
theorem sc_are_heaps : FnScope ["value"] ["value"] (defScope s_are_heaps) := ⟨rfl, rfl, rfl, by decide +kernel, rfl, by decide +kernel, by decide +kernel⟩
def sp_are_heaps (K : PySem.W.Frag) (cs : Cs) : Sp := fun vs H Q E => ∃ v : V, vs = [v] ∧ ((∃ (p : Addr) (i j : Int), v = .ref p ∧ H p = some (.tup [.int i, .int j]) ∧ 0 ≤ i ∧ 0 ≤ j ∧ Q (.bl true) H) ∨ (Hn H v ∧ Q (.bl false) H))
theorem ok_are_heaps {f : Addr} {fd : FuncData} (F : L2.Fun K "are_heaps" "are_heaps" s_are_heaps f fd) (T : Txt K mg cs)
    (c_is_pair : C8.Cal P w K mg base 2 "is_pair" (sp_is_pair K cs) []) : FnOk P w K mg base CX0 3 f fd ["value"] (sp_are_heaps K cs) := by
  refine F.ok sc_are_heaps (fun vs H Q E h => ?_) (fun cdv A outer s H vs Q E hr h => ?_)
  · obtain ⟨_, rfl, _⟩ := h
    rfl
  · obtain ⟨v, rfl, h⟩ := h
    refine ⟨_, (pss_one (ps_ret (pe_and (C8.pe_c c_is_pair hr (by decide) (by rfl) (pa_cons (pv 0) pa_nil)) (pe_and (pe_cmp (pc_ge (pe_ix ix_tup (pv 0) pe_int (fun _ _ => rfl)) pe_int)) (pe_one (pe_cmp (pc_ge (pe_ix ix_tup (pv 0) pe_int (fun _ _ => rfl)) pe_int))))))), ?_⟩
    rcases h with ⟨p, i, j, rfl, hp, hi, hj, k⟩ | ⟨hn | ⟨p, i, j, rfl, hp, hz⟩, k⟩
    · exact ⟨_, rfl, _, rfl, .inl ⟨p, i, j, rfl, hp, true, rfl, iteT ⟨_, rfl, p, _, _, _, rfl, rfl, SqT.of hp, at0, _, _, rfl, rfl, _, rfl, ifT (decide_eq_true hi) ⟨_, rfl, p, _, _, _, rfl, rfl, SqT.of hp, at1, _, _, rfl, rfl, bt (Q := Q) (decide_eq_true hj) k⟩⟩⟩⟩
    · exact ⟨_, rfl, _, rfl, .inr ⟨hn, false, rfl, iteF k⟩⟩
    · by_cases hi : 0 ≤ i
      · exact ⟨_, rfl, _, rfl, .inl ⟨p, i, j, rfl, hp, true, rfl, iteT ⟨_, rfl, p, _, _, _, rfl, rfl, SqT.of hp, at0, _, _, rfl, rfl, _, rfl, ifT (decide_eq_true hi) ⟨_, rfl, p, _, _, _, rfl, rfl, SqT.of hp, at1, _, _, rfl, rfl, bf (Q := Q) (decide_eq_false (by omega)) k⟩⟩⟩⟩
      · exact ⟨_, rfl, _, rfl, .inl ⟨p, i, j, rfl, hp, true, rfl, iteT ⟨_, rfl, p, _, _, _, rfl, rfl, SqT.of hp, at0, _, _, rfl, rfl, _, rfl, ifF (decide_eq_false hi) k⟩⟩⟩
-- check_bound: slots 0 bound
abbrev s_check_bound : Stmt := top 13
theorem sc_check_bound : FnScope ["bound"] ["bound"] (defScope s_check_bound) := ⟨rfl, rfl, rfl, by decide +kernel, rfl, by decide +kernel, by decide +kernel⟩
def sp_check_bound (K : PySem.W.Frag) (cs : Cs) : Sp := fun vs H Q E => ∃ v : V, vs = [v] ∧ ((∃ i : Int, v = .int i ∧ 1 ≤ i ∧ Q .non H) ∨ (Bn H v ∧ E (.ref cs.c_BadBound) none H))
theorem ok_check_bound {f : Addr} {fd : FuncData} (F : L2.Fun K "check_bound" "check_bound" s_check_bound f fd) (T : Txt K mg cs)
    (c_is_bound : C8.Cal P w K mg base 2 "is_bound" (sp_is_bound K cs) []) : FnOk P w K mg base (L2N.CX P w) 3 f fd ["bound"] (sp_check_bound K cs) := by
  refine okN F sc_check_bound (fun vs H Q E h => ?_) (fun cdv A outer s H vs Q E hr h => ?_)
  · obtain ⟨_, rfl, _⟩ := h
    rfl
  · obtain ⟨v, rfl, h⟩ := h
    refine ⟨_, (pss_one (ps_if (pt_not (pt_val (C8.pe_c c_is_bound hr (by decide) (by rfl) (pa_cons (pv 0) pa_nil)))) (pss_one (L2N.ps_raise rfl (L2N.takes_of rfl rfl rfl rfl) (L2N.pmk_own PySem.F.excBase_ValueError T.x_BB T.g_BadBound T.kp_BB (raises_own T.b_BB T.t_BB) (by exact rfl)))) pss_nil)), ?_⟩
    rcases h with ⟨i, rfl, hi, k⟩ | ⟨w, k⟩
    · exact ⟨_, rfl, _, rfl, .inl ⟨i, rfl, hi, _, rfl, iteF k⟩⟩
    · exact ⟨_, rfl, _, rfl, .inr ⟨w, _, rfl, iteT k⟩⟩
-- check_heaps: slots 0 heaps
abbrev s_check_heaps : Stmt := top 14
theorem sc_check_heaps : FnScope ["heaps"] ["heaps"] (defScope s_check_heaps) := ⟨rfl, rfl, rfl, by decide +kernel, rfl, by decide +kernel, by decide +kernel⟩
def sp_check_heaps (K : PySem.W.Frag) (cs : Cs) : Sp := fun vs H Q E => ∃ v : V, vs = [v] ∧ ((∃ (p : Addr) (i j : Int), v = .ref p ∧ H p = some (.tup [.int i, .int j]) ∧ 0 ≤ i ∧ 0 ≤ j ∧ Q .non H) ∨ (Hn H v ∧ E (.ref cs.c_BadHeaps) none H))
theorem ok_check_heaps {f : Addr} {fd : FuncData} (F : L2.Fun K "check_heaps" "check_heaps" s_check_heaps f fd) (T : Txt K mg cs)
    (c_are_heaps : C8.Cal P w K mg base 3 "are_heaps" (sp_are_heaps K cs) []) : FnOk P w K mg base (L2N.CX P w) 4 f fd ["heaps"] (sp_check_heaps K cs) := by
  refine okN F sc_check_heaps (fun vs H Q E h => ?_) (fun cdv A outer s H vs Q E hr h => ?_)
  · obtain ⟨_, rfl, _⟩ := h
    rfl
  · obtain ⟨v, rfl, h⟩ := h
    refine ⟨_, (pss_one (ps_if (pt_not (pt_val (C8.pe_c c_are_heaps hr (by decide) (by rfl) (pa_cons (pv 0) pa_nil)))) (pss_one (L2N.ps_raise rfl (L2N.takes_of rfl rfl rfl rfl) (L2N.pmk_own PySem.F.excBase_ValueError T.x_BH T.g_BadHeaps T.kp_BH (raises_own T.b_BH T.t_BH) (by exact rfl)))) pss_nil)), ?_⟩
    rcases h with ⟨p, i, j, rfl, hp, hi, hj, k⟩ | ⟨w, k⟩
    · exact ⟨_, rfl, _, rfl, .inl ⟨p, i, j, rfl, hp, hi, hj, _, rfl, iteF k⟩⟩
    · exact ⟨_, rfl, _, rfl, .inr ⟨w, _, rfl, iteT k⟩⟩
-- pair_by: slots 0 bound, 1 number, 2 lesser
abbrev s_pair_by : Stmt := top 22
theorem sc_pair_by : FnScope ["bound", "number", "lesser"] ["bound", "number"] (defScope s_pair_by) := ⟨rfl, rfl, rfl, by decide +kernel, rfl, by decide +kernel, by decide +kernel⟩
def sp_pair_by (K : PySem.W.Frag) (cs : Cs) : Sp := fun vs H Q E => ∃ b n : V, vs = [b, n] ∧ ((Bn H b ∧ E (.ref cs.c_BadBound) none H) ∨ ((∃ i : Int, b = .int i ∧ 1 ≤ i) ∧ Nn H n 0 ∧ E (.ref cs.c_BadNumber) none H))
theorem ok_pair_by {f : Addr} {fd : FuncData} (F : L2.Fun K "pair_by" "pair_by" s_pair_by f fd) (T : Txt K mg cs)
    (c_check_number : CalN P w K mg base 2 "check_number" ["number", "first"] (sp_check_number K cs))
    (c_check_bound : CalN P w K mg base 3 "check_bound" ["bound"] (sp_check_bound K cs)) : FnOk P w K mg base (L2N.CX P w) 4 f fd ["bound", "number"] (sp_pair_by K cs) := by
  refine okN F sc_pair_by (fun vs H Q E h => ?_) (fun cdv A outer s H vs Q E hr h => ?_)
  · obtain ⟨_, _, rfl, _⟩ := h
    rfl
  · obtain ⟨b0, n0, rfl, h⟩ := h
    refine ⟨_, (pss_cons (ps_expr (pe_cn c_check_bound hr (by decide) (by rfl) (L2N.takes_of rfl rfl rfl rfl) (pa_cons (pv 0) pa_nil))) (pss_cons (ps_expr (pe_cn c_check_number hr (by decide) (by rfl) (L2N.takes_of rfl rfl rfl rfl) (pa_cons (pv 1) (pa_cons pe_int pa_nil)))) pss_never)), ?_⟩
    rcases h with ⟨hb, k⟩ | ⟨⟨i, rfl, hi⟩, hn, k⟩
    · exact ⟨_, rfl, _, rfl, .inr ⟨hb, k⟩⟩
    · exact ⟨_, rfl, _, rfl, .inl ⟨i, rfl, hi, _, rfl, _, _, rfl, .inr ⟨hn, k⟩⟩⟩
-- pair_with: slots 0 bound, 1 number, 2 lessers
abbrev s_pair_with : Stmt := top 23
theorem sc_pair_with : FnScope ["bound", "number", "lessers"] ["bound", "number"] (defScope s_pair_with) := ⟨rfl, rfl, rfl, by decide +kernel, rfl, by decide +kernel, by decide +kernel⟩
def sp_pair_with (K : PySem.W.Frag) (cs : Cs) : Sp := fun vs H Q E => ∃ b n : V, vs = [b, n] ∧ ((Bn H b ∧ E (.ref cs.c_BadBound) none H) ∨ ((∃ i : Int, b = .int i ∧ 1 ≤ i) ∧ Nn H n 1 ∧ E (.ref cs.c_BadNumber) none H))
theorem ok_pair_with {f : Addr} {fd : FuncData} (F : L2.Fun K "pair_with" "pair_with" s_pair_with f fd) (T : Txt K mg cs)
    (c_check_number : CalN P w K mg base 2 "check_number" ["number", "first"] (sp_check_number K cs))
    (c_check_bound : CalN P w K mg base 3 "check_bound" ["bound"] (sp_check_bound K cs)) : FnOk P w K mg base (L2N.CX P w) 4 f fd ["bound", "number"] (sp_pair_with K cs) := by
  refine okN F sc_pair_with (fun vs H Q E h => ?_) (fun cdv A outer s H vs Q E hr h => ?_)
  · obtain ⟨_, _, rfl, _⟩ := h
    rfl
  · obtain ⟨b0, n0, rfl, h⟩ := h
    refine ⟨_, (pss_cons (ps_expr (pe_cn c_check_bound hr (by decide) (by rfl) (L2N.takes_of rfl rfl rfl rfl) (pa_cons (pv 0) pa_nil))) (pss_cons (ps_expr (pe_cn c_check_number hr (by decide) (by rfl) (L2N.takes_of rfl rfl rfl rfl) (pa_cons (pv 1) (pa_cons pe_int pa_nil)))) pss_never)), ?_⟩
    rcases h with ⟨hb, k⟩ | ⟨⟨i, rfl, hi⟩, hn, k⟩
    · exact ⟨_, rfl, _, rfl, .inr ⟨hb, k⟩⟩
    · exact ⟨_, rfl, _, rfl, .inl ⟨i, rfl, hi, _, rfl, _, _, rfl, .inr ⟨hn, k⟩⟩⟩
-- can: slots 0 bound, 1 heaps, 2 taking
abbrev s_can : Stmt := top 17
theorem sc_can : FnScope ["bound", "heaps", "taking"] ["bound", "heaps", "taking"] (defScope s_can) := ⟨rfl, rfl, rfl, by decide +kernel, rfl, by decide +kernel, by decide +kernel⟩
def sp_can (K : PySem.W.Frag) (cs : Cs) : Sp := fun vs H Q E => ∃ b h t : V, vs = [b, h, t] ∧ ((∃ D, Fail cs H b h t D ∧ E (.ref D) none H) ∨ ∃ (i : Int) (p q : Addr) (x y u w : Int), b = .int i ∧ h = .ref p ∧ t = .ref q ∧ H p = some (.tup [.int x, .int y]) ∧ H q = some (.tup [.int u, .int w]) ∧ 1 ≤ i ∧ 0 ≤ x ∧ 0 ≤ y ∧ Q (.bl (decide (Th.may i x y u w))) H)
theorem ok_can {f : Addr} {fd : FuncData} (F : L2.Fun K "can" "can" s_can f fd) (T : Txt K mg cs)
    (c__is_there : C8.Cal P w K mg base 1 "_is_there" (sp__is_there K cs) [])
    (c__is_let : C8.Cal P w K mg base 1 "_is_let" (sp__is_let K cs) [])
    (c_is_pair : C8.Cal P w K mg base 2 "is_pair" (sp_is_pair K cs) [])
    (c_check_bound : CalN P w K mg base 3 "check_bound" ["bound"] (sp_check_bound K cs))
    (c_check_heaps : CalN P w K mg base 4 "check_heaps" ["heaps"] (sp_check_heaps K cs)) : FnOk P w K mg base (L2N.CX P w) 5 f fd ["bound", "heaps", "taking"] (sp_can K cs) := by
  refine okN F sc_can (fun vs H Q E h => ?_) (fun cdv A outer s H vs Q E hr h => ?_)
  · obtain ⟨_, _, _, rfl, _⟩ := h
    rfl
  · obtain ⟨b0, h0, t0, rfl, h⟩ := h
    refine ⟨_, (pss_cons (ps_expr (pe_cn c_check_bound hr (by decide) (by rfl) (L2N.takes_of rfl rfl rfl rfl) (pa_cons (pv 0) pa_nil))) (pss_cons (ps_expr (pe_cn c_check_heaps hr (by decide) (by rfl) (L2N.takes_of rfl rfl rfl rfl) (pa_cons (pv 1) pa_nil))) (pss_cons (ps_if (pt_not (pt_val (C8.pe_c c_is_pair hr (by decide) (by rfl) (pa_cons (pv 2) pa_nil)))) (pss_one (L2N.ps_raise rfl (L2N.takes_of rfl rfl rfl rfl) (L2N.pmk_own PySem.F.excBase_ValueError T.x_BT T.g_BadTaking T.kp_BT (raises_own T.b_BT T.t_BT) (by exact rfl)))) pss_nil) (pss_one (ps_ret (pe_and (C8.pe_c c__is_there hr (by decide) (by rfl) (pa_cons (pv 1) (pa_cons (pv 2) pa_nil))) (pe_one (C8.pe_c c__is_let hr (by decide) (by rfl) (pa_cons (pv 0) (pa_cons (pv 2) pa_nil)))))))))), ?_⟩
    rcases h with ⟨D, ⟨hb, rfl⟩ | ⟨⟨i, rfl, hi⟩, hh, rfl⟩ | ⟨⟨b, rfl, hb⟩, ⟨p, i, j, rfl, hp, hi, hj⟩, ht, rfl⟩, k⟩ | ⟨b, p, q, i, j, u, v, rfl, rfl, rfl, hp, hq, hb, hi, hj, k⟩
    · exact ⟨_, rfl, _, rfl, .inr ⟨hb, k⟩⟩
    · exact ⟨_, rfl, _, rfl, .inl ⟨i, rfl, hi, _, rfl, _, rfl, .inr ⟨hh, k⟩⟩⟩
    · exact ⟨_, rfl, _, rfl, .inl ⟨b, rfl, hb, _, rfl, _, rfl, .inl ⟨p, i, j, rfl, hp, hi, hj, _, rfl, _, rfl, .inr ⟨ht, _, rfl, iteT k⟩⟩⟩⟩
    have kk : ∀ c, decide (Th.may b i j u v) = c → Q (.bl c) H := fun c h => h ▸ k
    refine ⟨_, rfl, _, rfl, .inl ⟨b, rfl, hb, _, rfl, _, rfl, .inl ⟨p, i, j, rfl, hp, hi, hj, _, rfl, _, rfl, .inl ⟨q, u, v, rfl, hq, true, rfl, ifF rfl ?_⟩⟩⟩⟩
    refine ⟨_, rfl, _, rfl, p, q, i, j, u, v, rfl, hp, hq, _, rfl, if2 (fun c => ?_) (fun c => ?_)⟩
    · have c' := of_decide_eq_true c
      refine ⟨_, rfl, _, rfl, b, q, u, v, rfl, hq, kk _ (decide_eq_decide.mpr ?_)⟩
      unfold Th.may
      omega
    · have c' := of_decide_eq_false c
      refine kk _ (decide_eq_false ?_)
      unfold Th.may
      omega
-- told: slots 0 bound, 1 heaps, 2 number
abbrev s_told : Stmt := top 32
theorem sc_told : FnScope ["bound", "heaps", "number"] ["bound", "heaps"] (defScope s_told) := ⟨rfl, rfl, rfl, by decide +kernel, rfl, by decide +kernel, by decide +kernel⟩
def sp_told (K : PySem.W.Frag) (cs : Cs) : Sp := fun vs H Q E => ∃ b h : V, vs = [b, h] ∧ ((Bn H b ∧ E (.ref cs.c_BadBound) none H) ∨ ((∃ i : Int, b = .int i ∧ 1 ≤ i) ∧ Hn H h ∧ E (.ref cs.c_BadHeaps) none H))
theorem ok_told {f : Addr} {fd : FuncData} (F : L2.Fun K "told" "told" s_told f fd) (T : Txt K mg cs)
    (c_check_bound : CalN P w K mg base 3 "check_bound" ["bound"] (sp_check_bound K cs))
    (c_check_heaps : CalN P w K mg base 4 "check_heaps" ["heaps"] (sp_check_heaps K cs)) : FnOk P w K mg base (L2N.CX P w) 5 f fd ["bound", "heaps"] (sp_told K cs) := by
  refine okN F sc_told (fun vs H Q E h => ?_) (fun cdv A outer s H vs Q E hr h => ?_)
  · obtain ⟨_, _, rfl, _⟩ := h
    rfl
  · obtain ⟨b0, h0, rfl, h⟩ := h
    refine ⟨_, (pss_cons (ps_expr (pe_cn c_check_bound hr (by decide) (by rfl) (L2N.takes_of rfl rfl rfl rfl) (pa_cons (pv 0) pa_nil))) (pss_cons (ps_expr (pe_cn c_check_heaps hr (by decide) (by rfl) (L2N.takes_of rfl rfl rfl rfl) (pa_cons (pv 1) pa_nil))) pss_never)), ?_⟩
    rcases h with ⟨hb, k⟩ | ⟨⟨i, rfl, hi⟩, hn, k⟩
    · exact ⟨_, rfl, _, rfl, .inr ⟨hb, k⟩⟩
    · exact ⟨_, rfl, _, rfl, .inl ⟨i, rfl, hi, _, rfl, _, rfl, .inr ⟨hn, k⟩⟩⟩
-- _law_with_number: slots 0 door, 1 number
abbrev s__law_with_number : Stmt := top 41
theorem sc__law_with_number : FnScope ["_law_door", "_law_number"] ["_law_door", "_law_number"] (defScope s__law_with_number) := ⟨rfl, rfl, rfl, by decide +kernel, rfl, by decide +kernel, by decide +kernel⟩
def sp__law_with_number (K : PySem.W.Frag) (cs : Cs) : Sp := fun vs H Q E => ∃ (d : Int) (v : V), vs = [.int d, v] ∧ ((d = 0 ∧ Nn H v 0) ∨ (d ≠ 0 ∧ Nn H v 1)) ∧ ∀ H', Evl.Ex H H' → E (.ref cs.c_BadNumber) none H'
theorem ok__law_with_number {f : Addr} {fd : FuncData} (F : L2.Fun K "_law_with_number" "_law_with_number" s__law_with_number f fd) (T : Txt K mg cs)
    (c_pair_by : CalN P w K mg base 4 "pair_by" ["bound", "number"] (sp_pair_by K cs))
    (c_pair_with : CalN P w K mg base 4 "pair_with" ["bound", "number"] (sp_pair_with K cs)) : FnOk P w K mg base (L2N.CX P w) 5 f fd ["_law_door", "_law_number"] (sp__law_with_number K cs) := by
  refine okN F sc__law_with_number (fun vs H Q E h => ?_) (fun cdv A outer s H vs Q E hr h => ?_)
  · obtain ⟨_, _, rfl, _⟩ := h
    rfl
  · obtain ⟨d, v, rfl, hn, k⟩ := h
    refine ⟨_, (pss_one (ps_ret (pe_ifExp (pt_cmp (pc_eqI (pv 0) pe_int)) (pe_cn c_pair_by hr (by decide) (by rfl) (L2N.takes_of rfl rfl rfl rfl) (pa_cons pe_int (pa_cons (pv 1) pa_nil))) (pe_cn c_pair_with hr (by decide) (by rfl) (L2N.takes_of rfl rfl rfl rfl) (pa_cons pe_int (pa_cons (pv 1) pa_nil)))))), ?_⟩
    refine ⟨_, rfl, _, _, rfl, rfl, _, rfl, if2 (fun c => ?_) (fun c => ?_)⟩
    · have c' : d = 0 := of_decide_eq_true c
      rcases hn with ⟨_, hn⟩ | ⟨n, _⟩
      · exact ⟨_, rfl, _, _, rfl, .inr ⟨⟨3, rfl, by decide⟩, hn, k _ (Evl.Ex.refl H)⟩⟩
      · exact absurd c' n
    · have c' : ¬ d = 0 := of_decide_eq_false c
      rcases hn with ⟨n, _⟩ | ⟨_, hn⟩
      · exact absurd n c'
      · exact ⟨_, rfl, _, _, rfl, .inr ⟨⟨3, rfl, by decide⟩, hn, k _ (Evl.Ex.refl H)⟩⟩
-- left: slots 0 bound, 1 heaps, 2 taking
abbrev s_left : Stmt := top 18
theorem sc_left : FnScope ["bound", "heaps", "taking"] ["bound", "heaps", "taking"] (defScope s_left) := ⟨rfl, rfl, rfl, by decide +kernel, rfl, by decide +kernel, by decide +kernel⟩
def sp_left (K : PySem.W.Frag) (cs : Cs) : Sp := fun vs H Q E => ∃ b h t : V, vs = [b, h, t] ∧ ((∃ D, Fail cs H b h t D ∧ E (.ref D) none H) ∨ ∃ (i : Int) (p q : Addr) (x y u w : Int), b = .int i ∧ h = .ref p ∧ t = .ref q ∧ H p = some (.tup [.int x, .int y]) ∧ H q = some (.tup [.int u, .int w]) ∧ 1 ≤ i ∧ 0 ≤ x ∧ 0 ≤ y ∧ ((¬ Th.may i x y u w ∧ E (.ref cs.c_BadTaking) none H) ∨ (Th.may i x y u w ∧ ∀ r H', Evl.Ex H H' → H' r = some (.tup [.int (x - u), .int (y - w)]) → Q (.ref r) H')))
theorem ok_left {f : Addr} {fd : FuncData} (F : L2.Fun K "left" "left" s_left f fd) (T : Txt K mg cs)
    (c_can : CalN P w K mg base 5 "can" ["bound", "heaps", "taking"] (sp_can K cs)) : FnOk P w K mg base (L2N.CX P w) 6 f fd ["bound", "heaps", "taking"] (sp_left K cs) := by
  refine okN F sc_left (fun vs H Q E h => ?_) (fun cdv A outer s H vs Q E hr h => ?_)
  · obtain ⟨_, _, _, rfl, _⟩ := h
    rfl
  · obtain ⟨b0, h0, t0, rfl, h⟩ := h
    refine ⟨_, (pss_cons (ps_if (pt_not (pt_val (pe_cn c_can hr (by decide) (by rfl) (L2N.takes_of rfl rfl rfl rfl) (pa_cons (pv 0) (pa_cons (pv 1) (pa_cons (pv 2) pa_nil)))))) (pss_one (L2N.ps_raise rfl (L2N.takes_of rfl rfl rfl rfl) (L2N.pmk_own PySem.F.excBase_ValueError T.x_BT T.g_BadTaking T.kp_BT (raises_own T.b_BT T.t_BT) (by exact rfl)))) pss_nil) (pss_one (ps_ret (pe_pair (pe_op op_sub (pe_ix ix_tup (pv 1) pe_int (fun _ _ => rfl)) (pe_ix ix_tup (pv 2) pe_int (fun _ _ => rfl))) (pe_op op_sub (pe_ix ix_tup (pv 1) pe_int (fun _ _ => rfl)) (pe_ix ix_tup (pv 2) pe_int (fun _ _ => rfl))))))), ?_⟩
    rcases h with ⟨D, hf, k⟩ | ⟨b, p, q, i, j, u, v, rfl, rfl, rfl, hp, hq, hb, hi, hj, ⟨hm, k⟩ | ⟨hm, k⟩⟩
    · exact ⟨_, rfl, _, rfl, _, rfl, _, _, _, rfl, .inl ⟨D, hf, k⟩⟩
    · exact ⟨_, rfl, _, rfl, _, rfl, _, _, _, rfl, .inr ⟨b, p, q, i, j, u, v, rfl, rfl, rfl, hp, hq, hb, hi, hj, _, rfl, ifT (nd1 hm) k⟩⟩
    · refine ⟨_, rfl, _, rfl, _, rfl, _, _, _, rfl, .inr ⟨b, p, q, i, j, u, v, rfl, rfl, rfl, hp, hq, hb, hi, hj, _, rfl, ifF (nd hm) ?_⟩⟩
      exact ⟨_, rfl, p, _, _, _, rfl, rfl, SqT.of hp, at0, _, rfl, q, _, _, _, rfl, rfl, SqT.of hq, at0, _, _, rfl, rfl, _, rfl, p, _, _, _, rfl, rfl, SqT.of hp, at1, _, rfl, q, _, _, _, rfl, rfl, SqT.of hq, at1, _, _, rfl, rfl, _, _, rfl, k⟩
-- _law_with_bound: slots 0 door, 1 bound
abbrev s__law_with_bound : Stmt := top 38
theorem sc__law_with_bound : FnScope ["_law_door", "_law_bound"] ["_law_door", "_law_bound"] (defScope s__law_with_bound) := ⟨rfl, rfl, rfl, by decide +kernel, rfl, by decide +kernel, by decide +kernel⟩
def sp__law_with_bound (K : PySem.W.Frag) (cs : Cs) : Sp := fun vs H Q E => ∃ (d : Int) (v : V), vs = [.int d, v] ∧ Bn H v ∧ ∀ H', Evl.Ex H H' → E (.ref cs.c_BadBound) none H'
theorem ok__law_with_bound {f : Addr} {fd : FuncData} (F : L2.Fun K "_law_with_bound" "_law_with_bound" s__law_with_bound f fd) (T : Txt K mg cs)
    (c_pair_by : CalN P w K mg base 4 "pair_by" ["bound", "number"] (sp_pair_by K cs))
    (c_pair_with : CalN P w K mg base 4 "pair_with" ["bound", "number"] (sp_pair_with K cs))
    (c_can : CalN P w K mg base 5 "can" ["bound", "heaps", "taking"] (sp_can K cs))
    (c_told : CalN P w K mg base 5 "told" ["bound", "heaps"] (sp_told K cs))
    (c_left : CalN P w K mg base 6 "left" ["bound", "heaps", "taking"] (sp_left K cs)) : FnOk P w K mg base (L2N.CX P w) 7 f fd ["_law_door", "_law_bound"] (sp__law_with_bound K cs) := by
  refine okN F sc__law_with_bound (fun vs H Q E h => ?_) (fun cdv A outer s H vs Q E hr h => ?_)
  · obtain ⟨_, _, rfl, _⟩ := h
    rfl
  · obtain ⟨d, v, rfl, hb, k⟩ := h
    refine ⟨_, (pss_cons (ps_if (pt_cmp (pc_lt (pv 0) pe_int)) (pss_one (ps_ret (pe_ifExp (pt_cmp (pc_eqI (pv 0) pe_int)) (pe_cn c_can hr (by decide) (by rfl) (L2N.takes_of rfl rfl rfl rfl) (pa_cons (pv 1) (pa_cons pe_non (pa_cons pe_non pa_nil)))) (pe_cn c_left hr (by decide) (by rfl) (L2N.takes_of rfl rfl rfl rfl) (pa_cons (pv 1) (pa_cons (pe_pair (pe_un un_neg pe_int) pe_int) (pa_cons pe_non pa_nil))))))) pss_nil) (pss_cons (ps_if (pt_cmp (pc_lt (pv 0) pe_int)) (pss_one (ps_ret (pe_ifExp (pt_cmp (pc_eqI (pv 0) pe_int)) (pe_cn c_pair_by hr (by decide) (by rfl) (L2N.takes_of rfl rfl rfl rfl) (pa_cons (pv 1) (pa_cons (pe_un un_neg pe_int) pa_nil))) (pe_cn c_pair_with hr (by decide) (by rfl) (L2N.takes_of rfl rfl rfl rfl) (pa_cons (pv 1) (pa_cons pe_non pa_nil)))))) pss_nil) (pss_one (ps_ret (pe_cn c_told hr (by decide) (by rfl) (L2N.takes_of rfl rfl rfl rfl) (pa_cons (pv 1) (pa_cons pe_non pa_nil))))))), ?_⟩
    refine ⟨_, rfl, _, _, rfl, rfl, _, rfl, if2 (fun _ => ?_) (fun _ => ?_)⟩
    · refine ⟨_, rfl, _, _, rfl, rfl, _, rfl, if2 (fun _ => ?_) (fun _ => ?_)⟩
      · exact ⟨_, rfl, _, _, _, rfl, .inl ⟨_, .inl ⟨hb, rfl⟩, k _ (Evl.Ex.refl H)⟩⟩
      · exact ⟨_, rfl, _, rfl, _, _, rfl, fun p H1 e hp => ⟨_, _, _, rfl, .inl ⟨_, .inl ⟨hb.mono e, rfl⟩, k _ e⟩⟩⟩
    refine ⟨_, rfl, _, _, rfl, rfl, _, rfl, if2 (fun _ => ?_) (fun _ => ?_)⟩
    · refine ⟨_, rfl, _, _, rfl, rfl, _, rfl, if2 (fun _ => ?_) (fun _ => ?_)⟩
      · exact ⟨_, rfl, _, rfl, _, _, rfl, .inl ⟨hb, k _ (Evl.Ex.refl H)⟩⟩
      · exact ⟨_, rfl, _, _, rfl, .inl ⟨hb, k _ (Evl.Ex.refl H)⟩⟩
    · exact ⟨_, rfl, _, _, rfl, .inl ⟨hb, k _ (Evl.Ex.refl H)⟩⟩
-- _law_with_heaps: slots 0 door, 1 heaps
abbrev s__law_with_heaps : Stmt := top 39
theorem sc__law_with_heaps : FnScope ["_law_door", "_law_heaps"] ["_law_door", "_law_heaps"] (defScope s__law_with_heaps) := ⟨rfl, rfl, rfl, by decide +kernel, rfl, by decide +kernel, by decide +kernel⟩
def sp__law_with_heaps (K : PySem.W.Frag) (cs : Cs) : Sp := fun vs H Q E => ∃ (d : Int) (v : V), vs = [.int d, v] ∧ Hn H v ∧ ∀ H', Evl.Ex H H' → E (.ref cs.c_BadHeaps) none H'
theorem ok__law_with_heaps {f : Addr} {fd : FuncData} (F : L2.Fun K "_law_with_heaps" "_law_with_heaps" s__law_with_heaps f fd) (T : Txt K mg cs)
    (c_can : CalN P w K mg base 5 "can" ["bound", "heaps", "taking"] (sp_can K cs))
    (c_told : CalN P w K mg base 5 "told" ["bound", "heaps"] (sp_told K cs))
    (c_left : CalN P w K mg base 6 "left" ["bound", "heaps", "taking"] (sp_left K cs)) : FnOk P w K mg base (L2N.CX P w) 7 f fd ["_law_door", "_law_heaps"] (sp__law_with_heaps K cs) := by
  refine okN F sc__law_with_heaps (fun vs H Q E h => ?_) (fun cdv A outer s H vs Q E hr h => ?_)
  · obtain ⟨_, _, rfl, _⟩ := h
    rfl
  · obtain ⟨d, v, rfl, hh, k⟩ := h
    refine ⟨_, (pss_one (ps_ret (pe_ifExp (pt_cmp (pc_eqI (pv 0) pe_int)) (pe_cn c_can hr (by decide) (by rfl) (L2N.takes_of rfl rfl rfl rfl) (pa_cons pe_int (pa_cons (pv 1) (pa_cons pe_non pa_nil)))) (pe_ifExp (pt_cmp (pc_eqI (pv 0) pe_int)) (pe_cn c_left hr (by decide) (by rfl) (L2N.takes_of rfl rfl rfl rfl) (pa_cons pe_int (pa_cons (pv 1) (pa_cons (pe_pair pe_int pe_int) pa_nil)))) (pe_cn c_told hr (by decide) (by rfl) (L2N.takes_of rfl rfl rfl rfl) (pa_cons pe_int (pa_cons (pv 1) pa_nil))))))), ?_⟩
    refine ⟨_, rfl, _, _, rfl, rfl, _, rfl, if2 (fun _ => ?_) (fun _ => ?_)⟩
    · exact ⟨_, rfl, _, _, _, rfl, .inl ⟨_, .inr (.inl ⟨⟨1, rfl, by decide⟩, hh, rfl⟩), k _ (Evl.Ex.refl H)⟩⟩
    refine ⟨_, rfl, _, _, rfl, rfl, _, rfl, if2 (fun _ => ?_) (fun _ => ?_)⟩
    · exact ⟨_, rfl, _, _, rfl, fun p H1 e hp => ⟨_, _, _, rfl, .inl ⟨_, .inr (.inl ⟨⟨2, rfl, by decide⟩, hh.mono e, rfl⟩), k _ e⟩⟩⟩
    · exact ⟨_, rfl, _, _, rfl, .inr ⟨⟨3, rfl, by decide⟩, hh, k _ (Evl.Ex.refl H)⟩⟩
-- _law_with_taking: slots 0 door, 1 taking
abbrev s__law_with_taking : Stmt := top 40
theorem sc__law_with_taking : FnScope ["_law_door", "_law_taking"] ["_law_door", "_law_taking"] (defScope s__law_with_taking) := ⟨rfl, rfl, rfl, by decide +kernel, rfl, by decide +kernel, by decide +kernel⟩
def sp__law_with_taking (K : PySem.W.Frag) (cs : Cs) : Sp := fun vs H Q E => ∃ (d : Int) (v : V), vs = [.int d, v] ∧ (Pn H v ∨ (d ≠ 0 ∧ ∃ (q : Addr) (u w : Int), v = .ref q ∧ H q = some (.tup [.int u, .int w]) ∧ ¬ Th.may 2 5 7 u w)) ∧ ∀ H', Evl.Ex H H' → E (.ref cs.c_BadTaking) none H'
theorem ok__law_with_taking {f : Addr} {fd : FuncData} (F : L2.Fun K "_law_with_taking" "_law_with_taking" s__law_with_taking f fd) (T : Txt K mg cs)
    (c_can : CalN P w K mg base 5 "can" ["bound", "heaps", "taking"] (sp_can K cs))
    (c_left : CalN P w K mg base 6 "left" ["bound", "heaps", "taking"] (sp_left K cs)) : FnOk P w K mg base (L2N.CX P w) 7 f fd ["_law_door", "_law_taking"] (sp__law_with_taking K cs) := by
  refine okN F sc__law_with_taking (fun vs H Q E h => ?_) (fun cdv A outer s H vs Q E hr h => ?_)
  · obtain ⟨_, _, rfl, _⟩ := h
    rfl
  · obtain ⟨d, v, rfl, ht, k⟩ := h
    refine ⟨_, (pss_one (ps_ret (pe_ifExp (pt_cmp (pc_eqI (pv 0) pe_int)) (pe_cn c_can hr (by decide) (by rfl) (L2N.takes_of rfl rfl rfl rfl) (pa_cons pe_int (pa_cons (pe_pair pe_int pe_int) (pa_cons (pv 1) pa_nil)))) (pe_cn c_left hr (by decide) (by rfl) (L2N.takes_of rfl rfl rfl rfl) (pa_cons pe_int (pa_cons (pe_pair pe_int pe_int) (pa_cons (pv 1) pa_nil))))))), ?_⟩
    refine ⟨_, rfl, _, _, rfl, rfl, _, rfl, if2 (fun c => ?_) (fun c => ?_)⟩
    · have c' : d = 0 := of_decide_eq_true c
      rcases ht with ht | ⟨n, _⟩
      · exact ⟨_, _, rfl, fun p H1 e hp => ⟨_, rfl, _, _, _, rfl, .inl ⟨_, .inr (.inr ⟨⟨2, rfl, by decide⟩, ⟨p, 5, 7, rfl, hp, by decide, by decide⟩, ht.mono e, rfl⟩), k _ e⟩⟩⟩
      · exact absurd c' n
    · rcases ht with ht | ⟨n, q, u, w, rfl, hq, hm⟩
      · exact ⟨_, _, rfl, fun p H1 e hp => ⟨_, rfl, _, _, _, rfl, .inl ⟨_, .inr (.inr ⟨⟨2, rfl, by decide⟩, ⟨p, 5, 7, rfl, hp, by decide, by decide⟩, ht.mono e, rfl⟩), k _ e⟩⟩⟩
      · exact ⟨_, _, rfl, fun p H1 e hp => ⟨_, rfl, _, _, _, rfl, .inr ⟨2, p, q, 5, 7, u, w, rfl, rfl, rfl, hp, e _ _ hq, by decide, by decide, by decide, .inl ⟨hm, k _ e⟩⟩⟩⟩
-- _law_told: slots 0 ask, 1 door, 2 thing, 3 error
abbrev s__law_told : Stmt := top 42
theorem sc__law_told : FnScope ["_law_ask", "_law_door", "_law_thing", "_law_error"] ["_law_ask", "_law_door", "_law_thing"] (defScope s__law_told) := ⟨rfl, rfl, rfl, by decide +kernel, rfl, by decide +kernel, by decide +kernel⟩
def sp__law_told (K : PySem.W.Frag) (cs : Cs) : Sp := fun vs H Q E => ∃ (f : Addr) (d : Int) (v : V) (n : Nat), vs = [.ref f, .int d, v] ∧ AskC cs H f d v n ∧ ∀ r H', Evl.Ex H H' → H' r = some (.lst (DueV n)) → Q (.ref r) H'
def AskS (K : PySem.W.Frag) (cs : Cs) (f : Addr) (sp : Sp) : Prop :=
  (f = cs.c__law_with_bound ∧ sp = sp__law_with_bound K cs) ∨ (f = cs.c__law_with_heaps ∧ sp = sp__law_with_heaps K cs) ∨ (f = cs.c__law_with_taking ∧ sp = sp__law_with_taking K cs) ∨ (f = cs.c__law_with_number ∧ sp = sp__law_with_number K cs)
theorem roomH_suite {k : Nat} {A : Around} {v : Option Value} (r : Room k A) : L2H.RoomH k (A.mark v) := ⟨r.dp, r.un⟩
theorem ok__law_told {f : Addr} {fd : FuncData} (F : L2.Fun K "_law_told" "_law_told" s__law_told f fd) (T : Txt K mg cs)
    (c__law_kinds : CalP P w K mg base 1 "_law_kinds" ["_law_error"] (sp__law_kinds K cs))
    (c__law_with_number : CalN P w K mg base 5 "_law_with_number" ["_law_door", "_law_number"] (sp__law_with_number K cs))
    (c__law_with_bound : CalN P w K mg base 7 "_law_with_bound" ["_law_door", "_law_bound"] (sp__law_with_bound K cs))
    (c__law_with_heaps : CalN P w K mg base 7 "_law_with_heaps" ["_law_door", "_law_heaps"] (sp__law_with_heaps K cs))
    (c__law_with_taking : CalN P w K mg base 7 "_law_with_taking" ["_law_door", "_law_taking"] (sp__law_with_taking K cs)) : FnOk P w K mg base CX0 9 f fd ["_law_ask", "_law_door", "_law_thing"] (sp__law_told K cs) := by
  refine F.ok sc__law_told (fun vs H Q E h => ?_) (fun cdv A outer s H vs Q E hr h => ?_)
  · obtain ⟨_, _, _, _, rfl, _⟩ := h
    rfl
  · obtain ⟨f0, d, v, n, rfl, ha, k⟩ := h
    have held : ∀ f sp, AskS K cs f sp → ∃ k', k' ≤ 8 ∧ HeldN P w K mg base k' f sp := by
      rintro f sp (⟨rfl, rfl⟩ | ⟨rfl, rfl⟩ | ⟨rfl, rfl⟩ | ⟨rfl, rfl⟩)
      · exact ⟨_, (by decide), c__law_with_bound.held T.g__law_with_bound rfl⟩
      · exact ⟨_, (by decide), c__law_with_heaps.held T.g__law_with_heaps rfl⟩
      · exact ⟨_, (by decide), c__law_with_taking.held T.g__law_with_taking rfl⟩
      · exact ⟨_, (by decide), c__law_with_number.held T.g__law_with_number rfl⟩
    refine ⟨_, (pss_cons (L2N.ps_try_as (i := 3) (tb := fun W => tDrop (tCallLN 0 (AskS K cs) (WE W) (tCons (tVar 1) (tCons (tVar 2) tNil)))) (ts := fun a cls d => tRet (tCallP (spK K cs a cls d) (tCons (tVar 3) tNil))) (Wout := fun _ _ _ _ => False) rfl rfl sc__law_told.nd rfl rfl ⟨rfl, by decide, Or.inl T.g_HeapError⟩ takes0N (fun W pn xe tk _ => pss_one (ps_expr (pe_callLN held hr tk rfl (Or.inl rfl) (pa_cons (pv 1) (pa_cons (pv 2) pa_nil))))) (fun a oe cls d pn hz hf => by obtain ⟨rfl, rfl, hcn⟩ := hz; obtain ⟨vs, hf⟩ := hf; refine pss_one (ps_ret ?_); show PE _ _ (tCallP (sp__law_kinds K cs (a, oe)) (tCons (tVar 3) tNil)); exact pe_cp (p := (a, oe)) (sp := sp__law_kinds K cs) c__law_kinds (roomH_suite hr) (by decide) ⟨rfl, vs, hf, hcn vs hf⟩ List.mem_cons_self (by rfl) (pa_cons (pv 3) pa_nil))) pss_never), ?_⟩
    rcases ha with ⟨rfl, hb, rfl⟩ | ⟨rfl, hb, rfl⟩ | ⟨rfl, hb, rfl⟩ | ⟨rfl, hb, rfl⟩
    · refine ⟨_, _, rfl, .inl ⟨rfl, rfl⟩, _, rfl, _, rfl, _, _, rfl, hb, fun H1 e1 => ⟨true, T.e_BB, fun _ a ha => ?_, fun q => Bool.noConfusion q⟩⟩
      exact ⟨_, rfl, 0, rfl, (by decide), rfl, rfl, fun r H2 e2 hr => k r _ (e1.trans e2) hr⟩
    · refine ⟨_, _, rfl, .inr (.inl ⟨rfl, rfl⟩), _, rfl, _, rfl, _, _, rfl, hb, fun H1 e1 => ⟨true, T.e_BH, fun _ a ha => ?_, fun q => Bool.noConfusion q⟩⟩
      exact ⟨_, rfl, 1, rfl, (by decide), rfl, rfl, fun r H2 e2 hr => k r _ (e1.trans e2) hr⟩
    · refine ⟨_, _, rfl, .inr (.inr (.inl ⟨rfl, rfl⟩)), _, rfl, _, rfl, _, _, rfl, hb, fun H1 e1 => ⟨true, T.e_BT, fun _ a ha => ?_, fun q => Bool.noConfusion q⟩⟩
      exact ⟨_, rfl, 2, rfl, (by decide), rfl, rfl, fun r H2 e2 hr => k r _ (e1.trans e2) hr⟩
    · refine ⟨_, _, rfl, .inr (.inr (.inr ⟨rfl, rfl⟩)), _, rfl, _, rfl, _, _, rfl, hb, fun H1 e1 => ⟨true, T.e_BN, fun _ a ha => ?_, fun q => Bool.noConfusion q⟩⟩
      exact ⟨_, rfl, 3, rfl, (by decide), rfl, rfl, fun r H2 e2 hr => k r _ (e1.trans e2) hr⟩
-- _law_all: slots 0 ask, 1 doors, 2 things, 3 due, 4 door, 5 thing
abbrev s__law_all : Stmt := top 43
theorem sc__law_all : FnScope ["_law_ask", "_law_doors", "_law_things", "_law_due", "_law_door", "_law_thing"] ["_law_ask", "_law_doors", "_law_things", "_law_due"] (defScope s__law_all) := ⟨rfl, rfl, rfl, by decide +kernel, rfl, by decide +kernel, by decide +kernel⟩
def sp__law_all (K : PySem.W.Frag) (cs : Cs) : Sp := fun vs H Q E => ∃ (f ad at_ ac : Addr) (ds : List Int) (ts : List V) (n : Nat), vs = [.ref f, .ref ad, .ref at_, .ref ac] ∧ H ad = some (.lst (ds.map V.int)) ∧ H at_ = some (.lst ts) ∧ H ac = some (.lst (DueV n)) ∧ ts.length ≤ 100 ∧ (∀ d ∈ ds, ∀ v ∈ ts, AskC cs H f d v n) ∧ ∀ H', Evl.Ex H H' → Q (.bl true) H'
def DueD (n : Nat) : PyData := .list [.bool (decide (n = 0)), .bool (decide (n = 1)), .bool (decide (n = 2)), .bool (decide (n = 3)), .bool true]
theorem due_dp {K : PySem.W.Frag} {H : Hp} {a : Addr} {n : Nat} (h : H a = some (.lst (DueV n))) : Dp K H (.ref a) (DueD n) := .lst (SqL.of h) (.cons (.bl _) (.cons (.bl _) (.cons (.bl _) (.cons (.bl _) (.cons (.bl _) .nil)))))
theorem due_sh (n : Nat) : SeqAt.shaped (DueD n) = true := by
  unfold SeqAt.shaped DueD
  simp [PyData.canLay0, PyData.canLayAll0, PyData.depth, PyData.depthAll]
theorem due_eqv (n : Nat) : PyData.eqv (DueD n) (DueD n) = true := by
  unfold DueD
  simp [PyData.eqv, PyData.eqvAll]
theorem ok__law_all {f : Addr} {fd : FuncData} (F : L2.Fun K "_law_all" "_law_all" s__law_all f fd) (T : Txt K mg cs)
    (c__law_told : C8.Cal P w K mg base 9 "_law_told" (sp__law_told K cs) []) : FnOk P w K mg base CX0 10 f fd ["_law_ask", "_law_doors", "_law_things", "_law_due"] (sp__law_all K cs) := by
  refine F.ok sc__law_all (fun vs H Q E h => ?_) (fun cdv A outer s H vs Q E hr h => ?_)
  · obtain ⟨_, _, _, _, _, _, _, rfl, _⟩ := h
    rfl
  · obtain ⟨f0, ad, at_, ac, ds, ts, n, rfl, had, hat, hac, hlen, hall, k⟩ := h
    refine ⟨_, (pss_cons (ps_for PassesOwn.never rfl (pi_list (pv 1)) (pg_name (i := 4) sc__law_all.nd rfl (Or.inr rfl)) (pss_one (ps_if (pt_not (pt_val (pe_callB (cr_all rfl) (by rfl) T.n_all (by decide +kernel) (pa_cons (pe_lc (own := [("_law_thing", 5)]) (g := gName 5) (tt := tYes) rfl sc__law_all.nd (pi_list (pv 2)) (blkOk_by (own := [("_law_thing", 5)]) (N := ["_law_ask", "_law_doors", "_law_things", "_law_due", "_law_door", "_law_thing"]) (sc := defScope s__law_all) (by decide +kernel)) (fun _ _ _ _ _ => pg_name (i := 5) sc__law_all.nd rfl (Or.inl rfl)) (fun _ _ _ _ _ => pts_nil) (fun _ _ _ _ _ => (pe_cmpR (op_eqDK (K := K) rfl hr.units) (C8.pe_c c__law_told hr (by decide) (by rfl) (pa_cons (pv 0) (pa_cons (pv 4) (pa_cons (pv 5) pa_nil)))) (pv 3) (nomark _)))) pa_nil)))) (pss_one (ps_ret pe_bl)) pss_nil))) (pss_one (ps_ret pe_bl))), ?_⟩
    refine ⟨_, rfl, ad, rfl, ⟨_, SqL.of had⟩, for_list (K := K) (a := ad) (xs := ds.map V.int) (fun _ σ H' => Evl.Ex H H' ∧ ∃ v4 v5 : Option V, σ = [some (.ref f0), some (.ref ad), some (.ref at_), some (.ref ac), v4, v5]) ⟨Evl.Ex.refl _, none, none, rfl⟩ (fun n σ H' _ ⟨e, _⟩ => SqL.of (e _ _ had)) ?_ ?_⟩
    rotate_left
    · rintro σ H1 ⟨e1, v4, v5, rfl⟩
      exact k _ e1
    rintro i y σ H1 hy ⟨e1, v4, v5, rfl⟩
    obtain ⟨d, hd, rfl⟩ := List.mem_map.mp (List.mem_of_getElem? hy)
    refine ⟨_, rfl, at_, rfl, ⟨_, SqL.of (e1 _ _ hat)⟩, fun D hD => ?_⟩
    refine lc_list (K := K) (a := at_) (xs := ts) (fun m H' => Evl.Ex H1 H' ∧ H' D = some (.lst (List.replicate m (.bl true)))) ⟨ex_new hD, upd_same⟩ (fun n H' _ ⟨e, _⟩ => SqL.of (e _ _ (e1 _ _ hat))) ?_ ?_
    · rintro m v H2 hv ⟨e2, hd2⟩
      have hm : m < ts.length := (List.getElem?_eq_some_iff.mp hv).1
      have ha := (hall d hd v (List.mem_of_getElem? hv)).mono (e1.trans e2)
      refine ⟨rfl, _, rfl, _, rfl, _, rfl, f0, d, v, n, rfl, ha, fun r H3 e3 hr => ⟨_, rfl, _, _, due_dp hr, due_dp (e3 _ _ (e2 _ _ (e1 _ _ hac))), due_sh n, due_sh n, ?_⟩⟩
      refine ⟨_, e3 _ _ hd2, ?_, ?_⟩
      · rw [List.length_replicate]
        exact small1000 (by omega)
      · exact ⟨(e2.trans e3).mut hD, by rw [due_eqv, upd_same, rep_snoc]⟩
    · rintro H2 ⟨e2, hd2⟩
      rw [rep_map] at hd2
      refine ⟨D, _, rfl, SqL.of hd2, _, rfl, ?_⟩
      refine ifF (by rw [rep_all]; rfl) ?_
      exact ⟨e1.trans e2, _, _, rfl⟩
-- law: slots 0 script, 1 far, 2 due, 3 k, 4 strange, 5 pairs, 6 odd, 7 mixed, 8 none, 9 thing, 10 taking
abbrev s_law : Stmt := top 44
theorem sc_law : FnScope ["_law_script", "_law_far", "_law_due", "_law_k", "_law_strange", "_law_pairs", "_law_odd", "_law_mixed", "_law_none", "_law_thing", "_law_taking"] ["_law_script"] (defScope s_law) := ⟨rfl, rfl, rfl, by decide +kernel, rfl, by decide +kernel, by decide +kernel⟩
def sp_law (K : PySem.W.Frag) (cs : Cs) : Sp := fun vs H Q E => ∃ (a : Addr) (ns : List Int), vs = [.ref a] ∧ SqL K H a (ns.map V.int) ∧ CellsSm ns ∧ ns.length ≤ 63 ∧ ∀ H', Q (.bl true) H'
theorem ok_law {f : Addr} {fd : FuncData} (F : L2.Fun K "law" "law" s_law f fd) (T : Txt K mg cs)
    (c__law_cell_at : C8.Cal P w K mg base 1 "_law_cell_at" (sp__law_cell_at K cs) [])
    (c_can : CalN P w K mg base 5 "can" ["bound", "heaps", "taking"] (sp_can K cs))
    (c_left : CalN P w K mg base 6 "left" ["bound", "heaps", "taking"] (sp_left K cs))
    (c__law_all : C8.Cal P w K mg base 10 "_law_all" (sp__law_all K cs) []) : FnOk P w K mg base CX0 11 f fd ["_law_script"] (sp_law K cs) := by
  refine F.ok sc_law (fun vs H Q E h => ?_) (fun cdv A outer s H vs Q E hr h => ?_)
  · obtain ⟨_, _, rfl, _⟩ := h
    rfl
  · obtain ⟨a, ns, rfl, hs, hz, hl, k⟩ := h
    refine ⟨_, (C8.pss_cut (ps_set (i := 1) sc_law.nd rfl (Or.inr rfl) (pe_op op_mod (pe_callB call_abs (by rfl) T.n_abs (by decide +kernel) (pa_cons (C8.pe_c c__law_cell_at hr (by decide) (by rfl) (pa_cons (pv 0) (pa_cons pe_int pa_nil))) pa_nil)) (pe_op op_pow pe_int pe_int))) (pss_cons (ps_set (i := 2) sc_law.nd rfl (Or.inl rfl) (pe_lstE pa_nil)) (pss_cons (ps_for PassesOwn.never rfl (pi_range1 (by rfl) T.n_range (pa_cons pe_int pa_nil)) (pg_name (i := 3) sc_law.nd rfl (Or.inl rfl)) (pss_one (ps_expr (pe_bm PySem.F.plainAttrs_list PySem.F.slot_list_append PySem.F.type_list_append mt_append (pv 2) (pa_cons (pe_lstE (pa_cons (pe_cmp (pc_eqI (pv 3) pe_int)) (pa_cons (pe_cmp (pc_eqI (pv 3) pe_int)) (pa_cons (pe_cmp (pc_eqI (pv 3) pe_int)) (pa_cons (pe_cmp (pc_eqI (pv 3) pe_int)) (pa_cons pe_bl pa_nil)))))) pa_nil))))) (pss_cons (ps_set (i := 4) sc_law.nd rfl (Or.inl rfl) (pe_lstE (pa_cons pe_non (pa_cons pe_str (pa_cons pe_bl (pa_cons pe_bl (pa_cons (pe_lstE (pa_cons pe_int pa_nil)) (pa_cons (pe_tupE (pa_cons pe_int pa_nil)) (pa_cons pe_dnewK (pa_cons (pe_un un_neg pe_int) (pa_cons (pe_op op_sub (pe_un un_neg pe_int) (pv 1)) pa_nil))))))))))) (pss_cons (ps_if (pt_not (pt_val (C8.pe_c c__law_all hr (by decide) (by rfl) (pa_cons (pe_glob (v := .ref cs.c__law_with_bound) (by rfl) T.g__law_with_bound rfl) (pa_cons (pe_lstE (pa_cons pe_int (pa_cons pe_int (pa_cons pe_int (pa_cons pe_int (pa_cons pe_int pa_nil)))))) (pa_cons (pe_op op_cat (pv 4) (pe_lstE (pa_cons pe_int pa_nil))) (pa_cons (pe_ix ix_list (pv 2) pe_int (fun _ _ => rfl)) pa_nil))))))) (pss_one (ps_ret pe_bl)) pss_nil) (pss_cons (ps_set (i := 5) sc_law.nd rfl (Or.inl rfl) (pe_op op_cat (pe_lc (own := [("_law_thing", 9)]) (g := gName 9) (tt := tYes) rfl sc_law.nd (pi_list (pv 4)) (blkOk_by (own := [("_law_thing", 9)]) (N := ["_law_script", "_law_far", "_law_due", "_law_k", "_law_strange", "_law_pairs", "_law_odd", "_law_mixed", "_law_none", "_law_thing", "_law_taking"]) (sc := defScope s_law) (by decide +kernel)) (fun _ _ _ _ _ => pg_name (i := 9) sc_law.nd rfl (Or.inl rfl)) (fun _ _ _ _ _ => pts_nil) (fun _ _ _ _ _ => (pe_tupE (pa_cons (pv 9) (pa_cons pe_int pa_nil))))) (pe_lc (own := [("_law_thing", 9)]) (g := gName 9) (tt := tYes) rfl sc_law.nd (pi_list (pv 4)) (blkOk_by (own := [("_law_thing", 9)]) (N := ["_law_script", "_law_far", "_law_due", "_law_k", "_law_strange", "_law_pairs", "_law_odd", "_law_mixed", "_law_none", "_law_thing", "_law_taking"]) (sc := defScope s_law) (by decide +kernel)) (fun _ _ _ _ _ => pg_name (i := 9) sc_law.nd rfl (Or.inl rfl)) (fun _ _ _ _ _ => pts_nil) (fun _ _ _ _ _ => (pe_tupE (pa_cons (pv 1) (pa_cons (pv 9) pa_nil))))))) (pss_cons (ps_set (i := 6) sc_law.nd rfl (Or.inl rfl) (pe_lstE (pa_cons pe_non (pa_cons (pe_tupE pa_nil) (pa_cons (pe_tupE (pa_cons pe_int pa_nil)) (pa_cons (pe_tupE (pa_cons pe_int (pa_cons pe_int (pa_cons pe_int pa_nil)))) (pa_cons (pe_lstE (pa_cons pe_int (pa_cons pe_int pa_nil))) (pa_cons pe_str (pa_cons pe_dnewK (pa_cons pe_int (pa_cons (pe_tupE (pa_cons (pv 1) (pa_cons (pv 1) (pa_cons pe_int pa_nil)))) pa_nil))))))))))) (pss_cons (ps_if (pt_not (pt_val (C8.pe_c c__law_all hr (by decide) (by rfl) (pa_cons (pe_glob (v := .ref cs.c__law_with_heaps) (by rfl) T.g__law_with_heaps rfl) (pa_cons (pe_lstE (pa_cons pe_int (pa_cons pe_int (pa_cons pe_int pa_nil)))) (pa_cons (pe_op op_cat (pv 6) (pv 5)) (pa_cons (pe_ix ix_list (pv 2) pe_int (fun _ _ => rfl)) pa_nil))))))) (pss_one (ps_ret pe_bl)) pss_nil) (pss_cons (ps_set (i := 7) sc_law.nd rfl (Or.inl rfl) (pe_op op_cat (pe_lc (own := [("_law_thing", 9)]) (g := gName 9) (tt := tYes) rfl sc_law.nd (pi_list (pe_slice sl_list (pv 4) po_none (po_some pe_int))) (blkOk_by (own := [("_law_thing", 9)]) (N := ["_law_script", "_law_far", "_law_due", "_law_k", "_law_strange", "_law_pairs", "_law_odd", "_law_mixed", "_law_none", "_law_thing", "_law_taking"]) (sc := defScope s_law) (by decide +kernel)) (fun _ _ _ _ _ => pg_name (i := 9) sc_law.nd rfl (Or.inl rfl)) (fun _ _ _ _ _ => pts_nil) (fun _ _ _ _ _ => (pe_tupE (pa_cons (pv 9) (pa_cons pe_int pa_nil))))) (pe_lc (own := [("_law_thing", 9)]) (g := gName 9) (tt := tYes) rfl sc_law.nd (pi_list (pe_slice sl_list (pv 4) po_none (po_some pe_int))) (blkOk_by (own := [("_law_thing", 9)]) (N := ["_law_script", "_law_far", "_law_due", "_law_k", "_law_strange", "_law_pairs", "_law_odd", "_law_mixed", "_law_none", "_law_thing", "_law_taking"]) (sc := defScope s_law) (by decide +kernel)) (fun _ _ _ _ _ => pg_name (i := 9) sc_law.nd rfl (Or.inl rfl)) (fun _ _ _ _ _ => pts_nil) (fun _ _ _ _ _ => (pe_tupE (pa_cons pe_int (pa_cons (pv 9) pa_nil))))))) (pss_cons (ps_if (pt_not (pt_val (C8.pe_c c__law_all hr (by decide) (by rfl) (pa_cons (pe_glob (v := .ref cs.c__law_with_taking) (by rfl) T.g__law_with_taking rfl) (pa_cons (pe_lstE (pa_cons pe_int (pa_cons pe_int pa_nil))) (pa_cons (pe_op op_cat (pv 6) (pv 7)) (pa_cons (pe_ix ix_list (pv 2) pe_int (fun _ _ => rfl)) pa_nil))))))) (pss_one (ps_ret pe_bl)) pss_nil) (pss_cons (ps_set (i := 8) sc_law.nd rfl (Or.inl rfl) (pe_lstE (pa_cons (pe_pair pe_int pe_int) (pa_cons (pe_pair (pe_un un_neg pe_int) pe_int) (pa_cons (pe_pair pe_int (pe_op op_sub (pe_un un_neg pe_int) (pv 1))) (pa_cons (pe_pair (pe_op op_add pe_int (pv 1)) pe_int) (pa_cons (pe_pair pe_int (pe_op op_add pe_int (pv 1))) (pa_cons (pe_pair pe_int pe_int) (pa_cons (pe_pair pe_int pe_int) (pa_cons (pe_pair pe_int pe_int) (pa_cons (pe_pair pe_int pe_int) (pa_cons (pe_pair (pe_un un_neg pe_int) (pe_un un_neg pe_int)) pa_nil)))))))))))) (pss_cons (ps_if (pt_not (pt_val (C8.pe_c c__law_all hr (by decide) (by rfl) (pa_cons (pe_glob (v := .ref cs.c__law_with_taking) (by rfl) T.g__law_with_taking rfl) (pa_cons (pe_lstE (pa_cons pe_int pa_nil)) (pa_cons (pv 8) (pa_cons (pe_ix ix_list (pv 2) pe_int (fun _ _ => rfl)) pa_nil))))))) (pss_one (ps_ret pe_bl)) pss_nil) (pss_cons (ps_if (pt_cmpR (op_neDK (K := K) rfl hr.units) (pe_lc (own := [("_law_taking", 10)]) (g := gName 10) (tt := tYes) rfl sc_law.nd (pi_list (pv 8)) (blkOk_by (own := [("_law_taking", 10)]) (N := ["_law_script", "_law_far", "_law_due", "_law_k", "_law_strange", "_law_pairs", "_law_odd", "_law_mixed", "_law_none", "_law_thing", "_law_taking"]) (sc := defScope s_law) (by decide +kernel)) (fun _ _ _ _ _ => pg_name (i := 10) sc_law.nd rfl (Or.inl rfl)) (fun _ _ _ _ _ => pts_nil) (fun _ _ _ _ _ => (pe_cn c_can hr (by decide) (by rfl) takes0N (pa_cons pe_int (pa_cons (pe_pair pe_int pe_int) (pa_cons (pv 10) pa_nil)))))) (pe_op op_rep (pe_lstE (pa_cons pe_bl pa_nil)) (pe_callB call_len_seq (by rfl) T.n_len (by decide +kernel) (pa_cons (pv 8) pa_nil))) (nomark _)) (pss_one (ps_ret pe_bl)) pss_nil) (pss_cons (ps_if (PW.pt (pw_or (pt_not (pt_val (C8.pe_c c__law_all hr (by decide) (by rfl) (pa_cons (pe_glob (v := .ref cs.c__law_with_number) (by rfl) T.g__law_with_number rfl) (pa_cons (pe_lstE (pa_cons pe_int (pa_cons pe_int pa_nil))) (pa_cons (pv 4) (pa_cons (pe_ix ix_list (pv 2) pe_int (fun _ _ => rfl)) pa_nil))))))) (pw_or1 (pt_not (pt_val (C8.pe_c c__law_all hr (by decide) (by rfl) (pa_cons (pe_glob (v := .ref cs.c__law_with_number) (by rfl) T.g__law_with_number rfl) (pa_cons (pe_lstE (pa_cons pe_int pa_nil)) (pa_cons (pe_lstE (pa_cons pe_int pa_nil)) (pa_cons (pe_ix ix_list (pv 2) pe_int (fun _ _ => rfl)) pa_nil)))))))))) (pss_one (ps_ret pe_bl)) pss_nil) (pss_cons (ps_if (PW.pt (pw_or (pt_cmpR (op_neP hr.units) (pe_cn c_left hr (by decide) (by rfl) takes0N (pa_cons pe_int (pa_cons (pe_pair pe_int pe_int) (pa_cons (pe_pair pe_int pe_int) pa_nil)))) (pe_pair pe_int pe_int) (nomark _)) (pw_or1 (pt_cmpR (op_neP hr.units) (pe_cn c_left hr (by decide) (by rfl) takes0N (pa_cons pe_int (pa_cons (pe_pair (pe_op op_add (pv 1) pe_int) pe_int) (pa_cons (pe_pair (pe_op op_add (pv 1) pe_int) pe_int) pa_nil)))) (pe_pair pe_int pe_int) (nomark _))))) (pss_one (ps_ret pe_bl)) pss_nil) (pss_one (ps_ret (pe_and (pe_cmpR op_is_bl (pe_cn c_can hr (by decide) (by rfl) takes0N (pa_cons pe_int (pa_cons (pe_pair pe_int pe_int) (pa_cons (pe_pair pe_int pe_int) pa_nil)))) pe_bl (nomark _)) (pe_and (pe_cmpR op_is_bl (pe_cn c_can hr (by decide) (by rfl) takes0N (pa_cons pe_int (pa_cons (pe_pair pe_int pe_int) (pa_cons (pe_pair pe_int pe_int) pa_nil)))) pe_bl (nomark _)) (pe_one (pe_cmpR op_is_bl (pe_cn c_can hr (by decide) (by rfl) takes0N (pa_cons pe_int (pa_cons (pe_pair pe_int pe_int) (pa_cons (pe_pair pe_int pe_int) pa_nil)))) pe_bl (nomark _)))))))))))))))))))))), ?_⟩
    have M0 : (0 : Int) < 10 ^ (40 : Int).toNat := by rw [p40]; decide
    -- far
    refine ⟨fun σ H' => ∃ far : Int, 0 ≤ far ∧ σ = [some (.ref a), some (.int far), none, none, none, none, none, none, none, none, none] ∧ H = H', ?_, ?_⟩
    · refine ⟨_, rfl, a, ns, 0, rfl, hs, (by decide), _, rfl, _, _, rfl, rfl, pow_ok (by decide) (by decide), _, _, rfl, rfl, M0, ?_⟩
      exact ⟨_, Int.emod_nonneg _ (by rw [p40]; decide), rfl, rfl⟩
    rintro σ H' ⟨far, far0, rfl, rfl⟩
    -- due
    refine ⟨(by show 0 ≤ sizeLine; decide), fun dd H1 _ hdd ndd => ?_⟩
    refine ⟨4, rfl, (by decide), (by decide), ?_⟩
    refine for_range (lo := 0) (n := 4) (fun n σ H' => ∃ (v3 : Option V) (rs : List Addr), σ = [some (.ref a), some (.int far), some (.ref dd), v3, none, none, none, none, none, none, none] ∧ rs.length = n ∧ H' dd = some (.lst (rs.map V.ref)) ∧ ∀ j r, rs[j]? = some r → H' r = some (.lst (DueV j))) ⟨none, [], rfl, rfl, hdd, fun j r h => by simp at h⟩ ?_ ?_
    · rintro n σ H2 hn ⟨v3, rs, rfl, hl, hd2, hr2⟩
      refine ⟨_, rfl, .inl ⟨rfl, _, SqL.of hd2⟩, ?_⟩
      refine ⟨_, rfl, _, _, rfl, rfl, _, rfl, _, _, rfl, rfl, _, rfl, _, _, rfl, rfl, _, rfl, _, _, rfl, rfl, (by show 5 ≤ sizeLine; decide), fun r H3 e3 hr3 nr3 => ?_⟩
      refine ⟨dd, _, _, rfl, rfl, e3 _ _ hd2, small1000 (by rw [List.length_map]; omega), ?_⟩
      rw [due_of hn] at hr3
      refine ⟨_, rs ++ [r], rfl, by simp [hl], ?_, ?_⟩
      · rw [upd_same, List.map_append]
        rfl
      · intro j q hq
        have hq3 : H3 q = some (.lst (DueV j)) := by
          by_cases c : j < n
          · rw [List.getElem?_append_left (by omega)] at hq
            exact e3 _ _ (hr2 j q hq)
          · have := (List.getElem?_eq_some_iff.mp hq).1
            rw [List.length_append, hl] at this
            have ej : j = n := by simp at this; omega
            subst ej
            rw [List.getElem?_append_right (by omega), hl, Nat.sub_self] at hq
            cases hq
            exact hr3
        rw [upd_ne (due_ne (e3 _ _ hd2) hq3)]
        exact hq3
    rintro σ H2 ⟨v3, rs, rfl, hl, hdd2, hrs⟩
    obtain ⟨r0, r1, r2, r3, rfl⟩ : ∃ r0 r1 r2 r3, rs = [r0, r1, r2, r3] := by
      match rs, hl with
      | [r0, r1, r2, r3], _ => exact ⟨r0, r1, r2, r3, rfl⟩
    have d0 := hrs 0 r0 rfl
    have d1 := hrs 1 r1 rfl
    have d2 := hrs 2 r2 rfl
    have d3 := hrs 3 r3 rfl
    clear hrs hl hdd hs hz ndd
    -- strange
    refine ⟨(by show 1 ≤ sizeLine; decide), fun l1 H3 e3 hl1 nl1 => ⟨(by show 1 ≤ sizeLine; decide), fun t1 H4 e4 ht1 => ?_⟩⟩
    refine fun dk ndk => ⟨_, rfl, _, rfl, _, rfl, _, _, rfl, rfl, (by show 9 ≤ sizeLine; decide), fun ss H5 e5 hss nss => ?_⟩
    have b45 : Evl.Ex H4 H5 := (ex_new ndk).trans e5
    have b25 : Evl.Ex H2 H5 := e3.trans (e4.trans b45)
    have gl : H5 l1 = some (.lst [.int 1]) := b45 _ _ (e4 _ _ hl1)
    have gt : H5 t1 = some (.tup [.int 1]) := b45 _ _ ht1
    have gd : H5 dk = some (.dK []) := e5 _ _ upd_same
    have gs : H5 ss = some (.lst (strangeV far l1 t1 dk)) := hss
    have gdd := b25 _ _ hdd2
    replace d0 := b25 _ _ d0
    replace d1 := b25 _ _ d1
    replace d2 := b25 _ _ d2
    replace d3 := b25 _ _ d3
    clear hl1 ht1 hss hdd2 e3 e4 e5 b45 b25 nl1 ndk nss
    have ng := strange_ng far0 gl gt gd
    have wn := strange_wn gl gt gd
    clear gl gt gd
    have slen : (strangeV far l1 t1 dk).length = 9 := rfl
    generalize hsv : strangeV far l1 t1 dk = sv at gs ng slen
    -- bounds
    refine ⟨(by show 5 ≤ sizeLine; decide), fun a1 H6 e6 ha1 _ => ⟨_, rfl, (by show 1 ≤ sizeLine; decide), fun z H7 e7 hz7 _ => ⟨ss, z, _, _, rfl, rfl, e7 _ _ (e6 _ _ gs), hz7, (by rw [slen]; decide), fun r hr => ?_⟩⟩⟩
    have x57 : Evl.Ex H5 (upd H7 r (.lst (sv ++ [.int 0]))) := e6.trans (e7.trans (ex_new hr))
    refine ⟨_, rfl, dd, _, _, _, rfl, rfl, SqL.of (x57 _ _ gdd), rfl, ?_⟩
    refine ⟨_, a1, r, r0, [0, 1, 2, 3, 4], sv ++ [.int 0], 0, rfl, ex_new hr _ _ (e7 _ _ ha1), upd_same, x57 _ _ d0, (by rw [List.length_append, slen]; decide), fun d _ v hv => .inl ⟨rfl, ?_, rfl⟩, fun H8 e8 => ⟨true, rfl, ifF rfl ?_⟩⟩
    · rcases List.mem_append.mp hv with hv | hv
      · exact ((ng v hv).mono x57).bound
      · rw [List.mem_singleton] at hv
        exact .inr ⟨0, hv, by decide⟩
    replace e8 := x57.trans e8
    clear hz7 ha1 x57 e7 e6 hr
    -- pairs
    refine ⟨_, rfl, ss, rfl, ⟨_, SqL.of (e8 _ _ gs)⟩, fun D hD => ?_⟩
    refine lc_list (K := K) (a := ss) (xs := sv) (fun m H' => Evl.Ex H8 H' ∧ ∃ ts, ts.length = m ∧ H' D = some (.lst ts) ∧ Tups H' (fun x => [x, .int 0]) sv ts) ⟨ex_new hD, [], rfl, upd_same, tups_nil⟩ (fun n H' _ ⟨e, _⟩ => SqL.of (e _ _ (e8 _ _ gs))) ?_ ?_
    · rintro m x H9 hx ⟨e9, ts, hm, hd9, ht9⟩
      have hm9 : m < sv.length := (List.getElem?_eq_some_iff.mp hx).1
      refine ⟨rfl, _, rfl, (by show 2 ≤ sizeLine; decide), fun q H10 e10 hq => ⟨_, e10 _ _ hd9, small1000 (by omega), ?_⟩⟩
      exact ⟨(e9.trans e10).mut hD, _, by rw [List.length_append, hm]; rfl, upd_same, tups_step ht9 hd9 e10 hq (List.mem_of_getElem? hx)⟩
    rintro H9 ⟨e9, ts1, hm1, hd9, ht1⟩
    refine ⟨_, rfl, ss, rfl, ⟨_, SqL.of (e9 _ _ (e8 _ _ gs))⟩, fun D2 hD2 => ?_⟩
    refine lc_list (K := K) (a := ss) (xs := sv) (fun m H' => Evl.Ex H9 H' ∧ ∃ ts, ts.length = m ∧ H' D2 = some (.lst ts) ∧ Tups H' (fun x => [.int far, x]) sv ts) ⟨ex_new hD2, [], rfl, upd_same, tups_nil⟩ (fun n H' _ ⟨e, _⟩ => SqL.of (e _ _ (e9 _ _ (e8 _ _ gs)))) ?_ ?_
    · rintro m x H10 hx ⟨e10, ts, hm, hd10, ht10⟩
      have hm10 : m < sv.length := (List.getElem?_eq_some_iff.mp hx).1
      refine ⟨rfl, _, rfl, _, rfl, (by show 2 ≤ sizeLine; decide), fun q H11 e11 hq => ⟨_, e11 _ _ hd10, small1000 (by omega), ?_⟩⟩
      exact ⟨(e10.trans e11).mut hD2, _, by rw [List.length_append, hm]; rfl, upd_same, tups_step ht10 hd10 e11 hq (List.mem_of_getElem? hx)⟩
    rintro H10 ⟨e10, ts2, hm2, hd10, ht2⟩
    refine ⟨D, D2, _, _, rfl, rfl, e10 _ _ hd9, hd10, Nat.le_of_lt (small1000 (by omega)), fun pp hpp => ?_⟩
    have x10 : Evl.Ex H5 (upd H10 pp (.lst (ts1 ++ ts2))) := e8.trans (e9.trans (e10.trans (ex_new hpp)))
    have gp : upd H10 pp (.lst (ts1 ++ ts2)) pp = some (.lst (ts1 ++ ts2)) := upd_same
    have pn : ∀ t ∈ ts1 ++ ts2, Hn (upd H10 pp (.lst (ts1 ++ ts2))) t := by
      have t1' := ht1.mono (e10.trans (ex_new (o := .lst (ts1 ++ ts2)) hpp))
      have t2' := ht2.mono (ex_new (o := .lst (ts1 ++ ts2)) hpp)
      intro t ht
      rcases List.mem_append.mp ht with ht | ht
      · obtain ⟨q, x, rfl, hx, hq⟩ := t1' t ht
        rcases (ng x hx).mono x10 with w | ⟨i, rfl, hi⟩
        · exact .inl (.inr ⟨q, _, rfl, hq, .inr ⟨_, _, rfl, .inl w⟩⟩)
        · exact .inr ⟨q, i, 0, rfl, hq, .inl hi⟩
      · obtain ⟨q, x, rfl, hx, hq⟩ := t2' t ht
        rcases (ng x hx).mono x10 with w | ⟨i, rfl, hi⟩
        · exact .inl (.inr ⟨q, _, rfl, hq, .inr ⟨_, _, rfl, .inr ⟨⟨far, rfl⟩, w⟩⟩⟩)
        · exact .inr ⟨q, far, i, rfl, hq, .inr hi⟩
    have plen : (ts1 ++ ts2).length = 18 := by rw [List.length_append]; omega
    generalize hps : ts1 ++ ts2 = ps at gp pn plen x10
    generalize upd H10 pp (.lst ps) = H11 at gp pn x10
    clear hd9 hd10 ht1 ht2 e8 e9 e10 hpp hps hm1 hm2 hD hD2
    -- odd
    refine ⟨(by show 0 ≤ sizeLine; decide), fun o1 H12 e12 ho1 => ⟨(by show 1 ≤ sizeLine; decide), fun o2 H13 e13 ho2 => ⟨(by show 3 ≤ sizeLine; decide), fun o3 H14 e14 ho3 => ⟨(by show 2 ≤ sizeLine; decide), fun o4 H15 e15 ho4 _ => ?_⟩⟩⟩⟩
    refine fun o5 no5 => ⟨_, rfl, _, rfl, (by show 3 ≤ sizeLine; decide), fun o6 H16 e16 ho6 => ⟨(by show 9 ≤ sizeLine; decide), fun oo H17 e17 hoo _ => ?_⟩⟩
    have y6 : Evl.Ex H15 H17 := (ex_new no5).trans (e16.trans e17)
    have x17 : Evl.Ex H11 H17 := e12.trans (e13.trans (e14.trans (e15.trans y6)))
    have on : ∀ v ∈ [V.non, .ref o1, .ref o2, .ref o3, .ref o4, .str "12", .ref o5, .int 5, .ref o6], Pn H17 v := by
      intro v hv
      simp only [List.mem_cons, List.not_mem_nil, or_false] at hv
      rcases hv with rfl | rfl | rfl | rfl | rfl | rfl | rfl | rfl | rfl
      · exact .inl ⟨_, .non, by decide⟩
      · exact .inr ⟨o1, _, rfl, y6 _ _ (e15 _ _ (e14 _ _ (e13 _ _ ho1))), .inl (by decide)⟩
      · exact .inr ⟨o2, _, rfl, y6 _ _ (e15 _ _ (e14 _ _ ho2)), .inl (by simp)⟩
      · exact .inr ⟨o3, _, rfl, y6 _ _ (e15 _ _ ho3), .inl (by simp)⟩
      · exact .inl ⟨_, .lst (y6 _ _ ho4), by decide⟩
      · exact .inl ⟨_, .str _, by decide⟩
      · exact .inl ⟨_, .dK (e17 _ _ (e16 _ _ upd_same)), by decide⟩
      · exact .inl ⟨_, .int _, by decide⟩
      · exact .inr ⟨o6, _, rfl, e17 _ _ ho6, .inl (by simp)⟩
    clear ho1 ho2 ho3 ho4 ho6 e12 e13 e14 e15 e16 e17 y6 no5
    have olen : [V.non, .ref o1, .ref o2, .ref o3, .ref o4, .str "12", .ref o5, .int 5, .ref o6].length = 9 := rfl
    generalize [V.non, .ref o1, .ref o2, .ref o3, .ref o4, .str "12", .ref o5, .int 5, .ref o6] = os at hoo on olen
    have b17 : Evl.Ex H5 H17 := x10.trans x17
    -- heaps
    refine ⟨(by show 3 ≤ sizeLine; decide), fun a2 H18 e18 ha2 _ => ⟨_, rfl, _, rfl, oo, pp, _, _, rfl, rfl, e18 _ _ hoo, e18 _ _ (x17 _ _ gp), Nat.le_of_lt (small1000 (by omega)), fun r hr => ?_⟩⟩
    have x18 : Evl.Ex H17 (upd H18 r (.lst (os ++ ps))) := e18.trans (ex_new hr)
    refine ⟨_, rfl, dd, _, _, _, rfl, rfl, SqL.of (x18 _ _ (b17 _ _ gdd)), rfl, ?_⟩
    refine ⟨_, a2, r, r1, [0, 1, 2], os ++ ps, 1, rfl, ex_new hr _ _ ha2, upd_same, x18 _ _ (b17 _ _ d1), (by rw [List.length_append]; omega), fun d _ v hv => .inr (.inl ⟨rfl, ?_, rfl⟩), fun H19 e19 => ⟨true, rfl, ifF rfl ?_⟩⟩
    · rcases List.mem_append.mp hv with hv | hv
      · exact .inl ((on v hv).mono x18)
      · exact (pn v hv).mono (x17.trans x18)
    replace e19 := x18.trans e19
    have b19 : Evl.Ex H5 H19 := b17.trans e19
    clear x18 e18 hr ha2 gp pn plen
    -- mixed
    have c7 : cutV sv none (some 7) = strange7 l1 t1 dk := by rw [← hsv]; rfl
    have l7 : (strange7 l1 t1 dk).length = 7 := rfl
    generalize strange7 l1 t1 dk = w7 at c7 wn l7
    refine ⟨_, rfl, _, rfl, ss, _, rfl, SqL.of (b19 _ _ gs), fun s7 hs7 => ?_⟩
    rw [c7]
    have b20 : Evl.Ex H19 (upd H19 s7 (.lst w7)) := ex_new hs7
    have g7 : upd H19 s7 (.lst w7) s7 = some (.lst w7) := upd_same
    generalize upd H19 s7 (.lst w7) = H20 at b20 g7 ⊢
    refine ⟨s7, rfl, ⟨_, SqL.of g7⟩, fun D hD => ?_⟩
    refine lc_list (K := K) (a := s7) (xs := w7) (fun m H' => Evl.Ex H20 H' ∧ ∃ ts, ts.length = m ∧ H' D = some (.lst ts) ∧ Tups H' (fun x => [x, .int 1]) w7 ts) ⟨ex_new hD, [], rfl, upd_same, tups_nil⟩ (fun n H' _ ⟨e, _⟩ => SqL.of (e _ _ g7)) ?_ ?_
    · rintro m x H9 hx ⟨e9, ts, hm, hd9, ht9⟩
      have hm9 : m < w7.length := (List.getElem?_eq_some_iff.mp hx).1
      refine ⟨rfl, _, rfl, (by show 2 ≤ sizeLine; decide), fun q H10 e10 hq => ⟨_, e10 _ _ hd9, small1000 (by omega), ?_⟩⟩
      exact ⟨(e9.trans e10).mut hD, _, by rw [List.length_append, hm]; rfl, upd_same, tups_step ht9 hd9 e10 hq (List.mem_of_getElem? hx)⟩
    rintro H21 ⟨e21, ts1, hm1, hd1, ht1⟩
    have b21 : Evl.Ex H5 H21 := b19.trans (b20.trans e21)
    refine ⟨_, rfl, _, rfl, ss, _, rfl, SqL.of (b21 _ _ gs), fun s8 hs8 => ?_⟩
    rw [c7]
    have b22 : Evl.Ex H21 (upd H21 s8 (.lst w7)) := ex_new hs8
    have g8 : upd H21 s8 (.lst w7) s8 = some (.lst w7) := upd_same
    generalize upd H21 s8 (.lst w7) = H22 at b22 g8 ⊢
    refine ⟨s8, rfl, ⟨_, SqL.of g8⟩, fun D2 hD2 => ?_⟩
    refine lc_list (K := K) (a := s8) (xs := w7) (fun m H' => Evl.Ex H22 H' ∧ ∃ ts, ts.length = m ∧ H' D2 = some (.lst ts) ∧ Tups H' (fun x => [.int 0, x]) w7 ts) ⟨ex_new hD2, [], rfl, upd_same, tups_nil⟩ (fun n H' _ ⟨e, _⟩ => SqL.of (e _ _ g8)) ?_ ?_
    · rintro m x H9 hx ⟨e9, ts, hm, hd9, ht9⟩
      have hm9 : m < w7.length := (List.getElem?_eq_some_iff.mp hx).1
      refine ⟨rfl, _, rfl, (by show 2 ≤ sizeLine; decide), fun q H10 e10 hq => ⟨_, e10 _ _ hd9, small1000 (by omega), ?_⟩⟩
      exact ⟨(e9.trans e10).mut hD2, _, by rw [List.length_append, hm]; rfl, upd_same, tups_step ht9 hd9 e10 hq (List.mem_of_getElem? hx)⟩
    rintro H23 ⟨e23, ts2, hm2, hd2', ht2⟩
    refine ⟨D, D2, _, _, rfl, rfl, e23 _ _ (b22 _ _ hd1), hd2', Nat.le_of_lt (small1000 (by omega)), fun mm hmm => ?_⟩
    have x23 : Evl.Ex H19 (upd H23 mm (.lst (ts1 ++ ts2))) := b20.trans (e21.trans (b22.trans (e23.trans (ex_new hmm))))
    have gm : upd H23 mm (.lst (ts1 ++ ts2)) mm = some (.lst (ts1 ++ ts2)) := upd_same
    have mn : ∀ t ∈ ts1 ++ ts2, Pn (upd H23 mm (.lst (ts1 ++ ts2))) t := by
      have t1' := ht1.mono (b22.trans (e23.trans (ex_new (o := .lst (ts1 ++ ts2)) hmm)))
      have t2' := ht2.mono (ex_new (o := .lst (ts1 ++ ts2)) hmm)
      intro t ht
      rcases List.mem_append.mp ht with ht | ht
      · obtain ⟨q, x, rfl, hx, hq⟩ := t1' t ht
        exact .inr ⟨q, _, rfl, hq, .inr ⟨_, _, rfl, .inl ((wn x hx).mono (b19.trans x23))⟩⟩
      · obtain ⟨q, x, rfl, hx, hq⟩ := t2' t ht
        exact .inr ⟨q, _, rfl, hq, .inr ⟨_, _, rfl, .inr ⟨⟨0, rfl⟩, (wn x hx).mono (b19.trans x23)⟩⟩⟩
    have mlen : (ts1 ++ ts2).length = 14 := by rw [List.length_append]; omega
    generalize hps : ts1 ++ ts2 = ms at gm mn mlen x23
    generalize upd H23 mm (.lst ms) = H24 at gm mn x23
    clear hd1 hd2' ht1 ht2 e21 e23 b20 b21 b22 g7 g8 hmm hps hm1 hm2 hD hD2 hs7 hs8
    have b24 : Evl.Ex H5 H24 := b19.trans x23
    have z24 : Evl.Ex H17 H24 := e19.trans x23
    -- takings
    refine ⟨(by show 2 ≤ sizeLine; decide), fun a3 H25 e25 ha3 _ => ⟨_, rfl, _, rfl, oo, mm, _, _, rfl, rfl, e25 _ _ (z24 _ _ hoo), e25 _ _ gm, Nat.le_of_lt (small1000 (by omega)), fun r hr => ?_⟩⟩
    have x25 : Evl.Ex H24 (upd H25 r (.lst (os ++ ms))) := e25.trans (ex_new hr)
    refine ⟨_, rfl, dd, _, _, _, rfl, rfl, SqL.of (x25 _ _ (b24 _ _ gdd)), rfl, ?_⟩
    refine ⟨_, a3, r, r2, [0, 1], os ++ ms, 2, rfl, ex_new hr _ _ ha3, upd_same, x25 _ _ (b24 _ _ d2), (by rw [List.length_append]; omega), fun d _ v hv => .inr (.inr (.inl ⟨rfl, .inl ?_, rfl⟩)), fun H26 e26 => ⟨true, rfl, ifF rfl ?_⟩⟩
    · rcases List.mem_append.mp hv with hv | hv
      · exact (on v hv).mono (z24.trans x25)
      · exact (mn v hv).mono x25
    have b26 : Evl.Ex H5 H26 := b24.trans (x25.trans e26)
    clear x25 e25 e26 hr ha3 gm mn mlen on olen hoo z24 x23 e19 x17 x10 b17 b19 b24
    -- none
    refine ⟨_, _, rfl, fun n0 H30 f0 hn0 => ⟨_, rfl, _, _, rfl, fun n1 H31 f1 hn1 => ⟨_, rfl, _, rfl, _, _, rfl, rfl, _, _, rfl, fun n2 H32 f2 hn2 => ⟨_, rfl, _, _, rfl, rfl, _, _, rfl, fun n3 H33 f3 hn3 => ⟨_, rfl, _, _, rfl, rfl, _, _, rfl, fun n4 H34 f4 hn4 => ?_⟩⟩⟩⟩⟩
    refine ⟨_, _, rfl, fun n5 H35 f5 hn5 => ⟨_, _, rfl, fun n6 H36 f6 hn6 => ⟨_, _, rfl, fun n7 H37 f7 hn7 => ⟨_, _, rfl, fun n8 H38 f8 hn8 => ⟨_, rfl, _, rfl, _, _, rfl, fun n9 H39 f9 hn9 => ⟨(by show 10 ≤ sizeLine; decide), fun nn H40 f10 hnn _ => ?_⟩⟩⟩⟩⟩⟩
    have b8 := f9.trans f10
    have b7 := f8.trans b8
    have b6 := f7.trans b7
    have b5 := f6.trans b6
    have b4 := f5.trans b5
    have b3 := f4.trans b4
    have b2 := f3.trans b3
    have b1 := f2.trans b2
    have b0 := f1.trans b1
    have b40 : Evl.Ex H5 H40 := b26.trans (f0.trans b0)
    have nt : ∀ v ∈ [V.ref n0, .ref n1, .ref n2, .ref n3, .ref n4, .ref n5, .ref n6, .ref n7, .ref n8, .ref n9], ∃ (q : Addr) (u w : Int), v = .ref q ∧ H40 q = some (.tup [.int u, .int w]) ∧ ¬ Th.may 2 5 7 u w := by
      intro v hv
      simp only [List.mem_cons, List.not_mem_nil, or_false] at hv
      rcases hv with rfl | rfl | rfl | rfl | rfl | rfl | rfl | rfl | rfl | rfl
      · exact ⟨_, _, _, rfl, b0 _ _ hn0, by decide +kernel⟩
      · exact ⟨_, _, _, rfl, b1 _ _ hn1, by decide +kernel⟩
      · exact ⟨_, _, _, rfl, b2 _ _ hn2, by unfold Th.may; omega⟩
      · exact ⟨_, _, _, rfl, b3 _ _ hn3, by unfold Th.may; omega⟩
      · exact ⟨_, _, _, rfl, b4 _ _ hn4, by unfold Th.may; omega⟩
      · exact ⟨_, _, _, rfl, b5 _ _ hn5, by decide +kernel⟩
      · exact ⟨_, _, _, rfl, b6 _ _ hn6, by decide +kernel⟩
      · exact ⟨_, _, _, rfl, b7 _ _ hn7, by decide +kernel⟩
      · exact ⟨_, _, _, rfl, b8 _ _ hn8, by decide +kernel⟩
      · exact ⟨_, _, _, rfl, f10 _ _ hn9, by decide +kernel⟩
    clear hn0 hn1 hn2 hn3 hn4 hn5 hn6 hn7 hn8 hn9 b0 b1 b2 b3 b4 b5 b6 b7 b8 f0 f1 f2 f3 f4 f5 f6 f7 f8 f9 f10
    have nlen : [V.ref n0, .ref n1, .ref n2, .ref n3, .ref n4, .ref n5, .ref n6, .ref n7, .ref n8, .ref n9].length = 10 := rfl
    generalize [V.ref n0, .ref n1, .ref n2, .ref n3, .ref n4, .ref n5, .ref n6, .ref n7, .ref n8, .ref n9] = ks at hnn nt nlen
    -- what can't be taken
    refine ⟨(by show 1 ≤ sizeLine; decide), fun a4 H41 e41 ha4 _ => ⟨_, rfl, _, rfl, dd, _, _, _, rfl, rfl, SqL.of (e41 _ _ (b40 _ _ gdd)), rfl, ?_⟩⟩
    refine ⟨_, a4, nn, r2, [1], ks, 2, rfl, ha4, e41 _ _ hnn, e41 _ _ (b40 _ _ d2), (by omega), fun d hd v hv => .inr (.inr (.inl ⟨rfl, .inr ⟨?_, ?_⟩, rfl⟩)), fun H42 e42 => ⟨true, rfl, ifF rfl ?_⟩⟩
    · rw [List.mem_singleton] at hd
      omega
    · obtain ⟨q, u, w, h1, h2, h3⟩ := nt v hv
      exact ⟨q, u, w, h1, e41 _ _ h2, h3⟩
    have z42 : Evl.Ex H40 H42 := e41.trans e42
    have b42 : Evl.Ex H5 H42 := b40.trans z42
    -- can says so
    refine ⟨_, rfl, nn, rfl, ⟨_, SqL.of (z42 _ _ hnn)⟩, fun D hD => ?_⟩
    refine lc_list (K := K) (a := nn) (xs := ks) (fun m H' => Evl.Ex H42 H' ∧ H' D = some (.lst (List.replicate m (.bl false)))) ⟨ex_new hD, upd_same⟩ (fun n H' _ ⟨e, _⟩ => SqL.of (e _ _ (z42 _ _ hnn))) ?_ ?_
    · rintro m v H43 hv ⟨e43, hd43⟩
      have hm : m < ks.length := (List.getElem?_eq_some_iff.mp hv).1
      obtain ⟨q, u, w, rfl, hq, hno⟩ := nt v (List.mem_of_getElem? hv)
      refine ⟨rfl, _, _, rfl, fun p H44 e44 hp => ⟨_, rfl, _, _, _, rfl, .inr ⟨2, p, q, 5, 7, u, w, rfl, rfl, rfl, hp, e44 _ _ (e43 _ _ (z42 _ _ hq)), (by decide), (by decide), (by decide), ?_⟩⟩⟩
      rw [decide_eq_false hno]
      refine ⟨_, e44 _ _ hd43, ?_, ?_⟩
      · rw [List.length_replicate]
        exact small1000 (by omega)
      · exact ⟨(e43.trans e44).mut hD, by rw [upd_same, rep_snoc]⟩
    rintro H43 ⟨e43, hd43⟩
    rw [nlen] at hd43
    refine ⟨(by show 1 ≤ sizeLine; decide), fun fl H44 e44 hfl _ => ⟨_, rfl, nn, _, rfl, .inl (SqL.of (e44 _ _ (e43 _ _ (z42 _ _ hnn)))), ?_⟩⟩
    refine ⟨fl, _, _, rfl, rfl, hfl, (by rw [nlen]; decide), (by rw [nlen]; decide), (by rw [nlen]; decide), fun r hr => ?_⟩
    rw [nlen]
    have hrr : upd H44 r (.lst (List.replicate ((10 : Nat) : Int).toNat [V.bl false]).flatten) r = some (.lst (List.replicate 10 (V.bl false))) := upd_same
    have b45 : Evl.Ex H43 (upd H44 r (.lst (List.replicate ((10 : Nat) : Int).toNat [V.bl false]).flatten)) := e44.trans (ex_new hr)
    generalize upd H44 r (.lst (List.replicate ((10 : Nat) : Int).toNat [V.bl false]).flatten) = H45 at hrr b45 ⊢
    refine ⟨_, _, rep_dp (b45 _ _ hd43), rep_dp hrr, rep_sh, rep_sh, _, rfl, ifF (by rw [rep_eqv]; rfl) ?_⟩
    have c45 : Evl.Ex H5 H45 := b42.trans (e43.trans b45)
    -- numbers
    refine ⟨(by show 2 ≤ sizeLine; decide), fun a5 H46 e46 ha5 _ => ⟨_, rfl, _, rfl, dd, _, _, _, rfl, rfl, SqL.of (e46 _ _ (c45 _ _ gdd)), rfl, ?_⟩⟩
    have c46 : Evl.Ex H5 H46 := c45.trans e46
    refine ⟨_, a5, ss, r3, [0, 1], sv, 3, rfl, ha5, c46 _ _ gs, c46 _ _ d3, (by omega), fun d hd v hv => .inr (.inr (.inr ⟨rfl, ?_, rfl⟩)), fun H47 e47 => ⟨true, rfl, iteF ?_⟩⟩
    · by_cases c : d = 0
      · exact .inl ⟨c, ((ng v hv).mono c46).number (by decide)⟩
      · exact .inr ⟨c, ((ng v hv).mono c46).number (by decide)⟩
    have c47 := c46.trans e47
    refine ⟨(by show 1 ≤ sizeLine; decide), fun a6 H48 e48 ha6 _ => ⟨(by show 1 ≤ sizeLine; decide), fun a7 H49 e49 ha7 _ => ⟨_, rfl, dd, _, _, _, rfl, rfl, SqL.of (e49 _ _ (e48 _ _ (c47 _ _ gdd))), rfl, ?_⟩⟩⟩
    refine ⟨_, a6, a7, r3, [1], [.int 0], 3, rfl, e49 _ _ ha6, ha7, e49 _ _ (e48 _ _ (c47 _ _ d3)), (by decide), fun d hd v hv => .inr (.inr (.inr ⟨rfl, .inr ⟨?_, ?_⟩, rfl⟩)), fun H50 e50 => ⟨true, rfl, ifF rfl ?_⟩⟩
    · rw [List.mem_singleton] at hd
      omega
    · rw [List.mem_singleton] at hv
      exact .inr ⟨0, hv, by decide⟩
    -- left
    refine ⟨_, _, rfl, fun p1 H51 g1 hp1 => ⟨_, _, rfl, fun q1 H52 g2 hq1 => ⟨_, _, _, rfl, .inr ⟨2, p1, q1, 5, 7, 5, 6, rfl, rfl, rfl, g2 _ _ hp1, hq1, (by decide), (by decide), (by decide), .inr ⟨(by decide +kernel), fun r5 H53 g3 hr5 => ?_⟩⟩⟩⟩⟩
    refine ⟨_, _, rfl, fun r6 H54 g4 hr6 => ⟨r5, r6, _, _, _, _, rfl, rfl, g4 _ _ hr5, hr6, _, rfl, ifF (nd (by decide)) ?_⟩⟩
    have m2 : Th.may 1 (far + 1) 2 (far + 1) 0 := by
      unfold Th.may
      omega
    refine ⟨_, rfl, _, _, rfl, rfl, _, _, rfl, fun p2 H55 g5 hp2 => ⟨_, rfl, _, _, rfl, rfl, _, _, rfl, fun q2 H56 g6 hq2 => ⟨_, _, _, rfl, .inr ⟨1, p2, q2, far + 1, 2, far + 1, 0, rfl, rfl, rfl, g6 _ _ hp2, hq2, (by decide), (by omega), (by decide), .inr ⟨m2, fun r7 H57 g7 hr7 => ?_⟩⟩⟩⟩⟩
    refine ⟨_, _, rfl, fun r8 H58 g8 hr8 => ⟨r7, r8, _, _, _, _, rfl, rfl, g8 _ _ hr7, hr8, _, rfl, ifF (nd (by omega)) ?_⟩⟩
    -- the end
    refine ⟨_, _, rfl, fun p3 H59 g9 hp3 => ⟨_, _, rfl, fun q3 H60 g10 hq3 => ⟨_, _, _, rfl, .inr ⟨1, p3, q3, 2, 2, 2, 2, rfl, rfl, rfl, g10 _ _ hp3, hq3, (by decide), (by decide), (by decide), _, _, rfl, rfl, _, rfl, ifT (by decide +kernel) ?_⟩⟩⟩⟩
    refine ⟨_, _, rfl, fun p4 H61 g11 hp4 => ⟨_, _, rfl, fun q4 H62 g12 hq4 => ⟨_, _, _, rfl, .inr ⟨1, p4, q4, 3, 3, 1, 2, rfl, rfl, rfl, g12 _ _ hp4, hq4, (by decide), (by decide), (by decide), _, _, rfl, rfl, _, rfl, ifT (by decide +kernel) ?_⟩⟩⟩⟩
    exact ⟨_, _, rfl, fun p5 H63 g13 hp5 => ⟨_, _, rfl, fun q5 H64 g14 hq5 => ⟨_, _, _, rfl, .inr ⟨2, p5, q5, 3, 3, 1, 2, rfl, rfl, rfl, g14 _ _ hp5, hq5, (by decide), (by decide), (by decide), _, _, rfl, rfl, bt (Q := Q) (by decide +kernel) (k _)⟩⟩⟩⟩
end
theorem all_mk {P : Program} {w : World} {K : PySem.W.Frag} {h : Heap} {mg : Str → Option Value} {fa : Addr} (X : K.In h) (G : h.Ns mainGlobals mg) (hfa : mg "law" = some (.ref fa))
    {f_is_whole : Addr} {od_is_whole an_is_whole : Option Addr} {sl_is_whole : Array (Option Value)} {oc_is_whole kV_is_whole dc_is_whole pm_is_whole cd_is_whole ct_is_whole : Value}
    {f__is_there : Addr} {od__is_there an__is_there : Option Addr} {sl__is_there : Array (Option Value)} {oc__is_there kV__is_there dc__is_there pm__is_there cd__is_there ct__is_there : Value}
    {f__is_let : Addr} {od__is_let an__is_let : Option Addr} {sl__is_let : Array (Option Value)} {oc__is_let kV__is_let dc__is_let pm__is_let cd__is_let ct__is_let : Value}
    {f__law_cell_at : Addr} {od__law_cell_at an__law_cell_at : Option Addr} {sl__law_cell_at : Array (Option Value)} {oc__law_cell_at kV__law_cell_at dc__law_cell_at pm__law_cell_at cd__law_cell_at ct__law_cell_at : Value}
    {f__law_kinds : Addr} {od__law_kinds an__law_kinds : Option Addr} {sl__law_kinds : Array (Option Value)} {oc__law_kinds kV__law_kinds dc__law_kinds pm__law_kinds cd__law_kinds ct__law_kinds : Value}
    {f_is_pair : Addr} {od_is_pair an_is_pair : Option Addr} {sl_is_pair : Array (Option Value)} {oc_is_pair kV_is_pair dc_is_pair pm_is_pair cd_is_pair ct_is_pair : Value}
    {f_is_bound : Addr} {od_is_bound an_is_bound : Option Addr} {sl_is_bound : Array (Option Value)} {oc_is_bound kV_is_bound dc_is_bound pm_is_bound cd_is_bound ct_is_bound : Value}
    {f_check_number : Addr} {od_check_number an_check_number : Option Addr} {sl_check_number : Array (Option Value)} {oc_check_number kV_check_number dc_check_number pm_check_number cd_check_number ct_check_number : Value}
    {f_are_heaps : Addr} {od_are_heaps an_are_heaps : Option Addr} {sl_are_heaps : Array (Option Value)} {oc_are_heaps kV_are_heaps dc_are_heaps pm_are_heaps cd_are_heaps ct_are_heaps : Value}
    {f_check_bound : Addr} {od_check_bound an_check_bound : Option Addr} {sl_check_bound : Array (Option Value)} {oc_check_bound kV_check_bound dc_check_bound pm_check_bound cd_check_bound ct_check_bound : Value}
    {f_check_heaps : Addr} {od_check_heaps an_check_heaps : Option Addr} {sl_check_heaps : Array (Option Value)} {oc_check_heaps kV_check_heaps dc_check_heaps pm_check_heaps cd_check_heaps ct_check_heaps : Value}
    {f_pair_by : Addr} {od_pair_by an_pair_by : Option Addr} {sl_pair_by : Array (Option Value)} {oc_pair_by kV_pair_by dc_pair_by pm_pair_by cd_pair_by ct_pair_by : Value}
    {f_pair_with : Addr} {od_pair_with an_pair_with : Option Addr} {sl_pair_with : Array (Option Value)} {oc_pair_with kV_pair_with dc_pair_with pm_pair_with cd_pair_with ct_pair_with : Value}
    {f_can : Addr} {od_can an_can : Option Addr} {sl_can : Array (Option Value)} {oc_can kV_can dc_can pm_can cd_can ct_can : Value}
    {f_told : Addr} {od_told an_told : Option Addr} {sl_told : Array (Option Value)} {oc_told kV_told dc_told pm_told cd_told ct_told : Value}
    {f__law_with_number : Addr} {od__law_with_number an__law_with_number : Option Addr} {sl__law_with_number : Array (Option Value)} {oc__law_with_number kV__law_with_number dc__law_with_number pm__law_with_number cd__law_with_number ct__law_with_number : Value}
    {f_left : Addr} {od_left an_left : Option Addr} {sl_left : Array (Option Value)} {oc_left kV_left dc_left pm_left cd_left ct_left : Value}
    {f__law_with_bound : Addr} {od__law_with_bound an__law_with_bound : Option Addr} {sl__law_with_bound : Array (Option Value)} {oc__law_with_bound kV__law_with_bound dc__law_with_bound pm__law_with_bound cd__law_with_bound ct__law_with_bound : Value}
    {f__law_with_heaps : Addr} {od__law_with_heaps an__law_with_heaps : Option Addr} {sl__law_with_heaps : Array (Option Value)} {oc__law_with_heaps kV__law_with_heaps dc__law_with_heaps pm__law_with_heaps cd__law_with_heaps ct__law_with_heaps : Value}
    {f__law_with_taking : Addr} {od__law_with_taking an__law_with_taking : Option Addr} {sl__law_with_taking : Array (Option Value)} {oc__law_with_taking kV__law_with_taking dc__law_with_taking pm__law_with_taking cd__law_with_taking ct__law_with_taking : Value}
    {f__law_told : Addr} {od__law_told an__law_told : Option Addr} {sl__law_told : Array (Option Value)} {oc__law_told kV__law_told dc__law_told pm__law_told cd__law_told ct__law_told : Value}
    {f__law_all : Addr} {od__law_all an__law_all : Option Addr} {sl__law_all : Array (Option Value)} {oc__law_all kV__law_all dc__law_all pm__law_all cd__law_all ct__law_all : Value}
    {f_law : Addr} {od_law an_law : Option Addr} {sl_law : Array (Option Value)} {oc_law kV_law dc_law pm_law cd_law ct_law : Value}
    {C_HeapError : Addr}
    {C_BadBound : Addr}
    {C_BadHeaps : Addr}
    {C_BadTaking : Addr}
    {C_BadNumber : Addr}
    {C__law_with_bound : Addr}
    {C__law_with_heaps : Addr}
    {C__law_with_taking : Addr}
    {C__law_with_number : Addr}
    (g_HeapError : PySem.W.nsIn K mainGlobals "HeapError" = some (some (.ref C_HeapError)))
    (g_BadBound : PySem.W.nsIn K mainGlobals "BadBound" = some (some (.ref C_BadBound)))
    (g_BadHeaps : PySem.W.nsIn K mainGlobals "BadHeaps" = some (some (.ref C_BadHeaps)))
    (g_BadTaking : PySem.W.nsIn K mainGlobals "BadTaking" = some (some (.ref C_BadTaking)))
    (g_BadNumber : PySem.W.nsIn K mainGlobals "BadNumber" = some (some (.ref C_BadNumber)))
    (g__law_with_bound : PySem.W.nsIn K mainGlobals "_law_with_bound" = some (some (.ref C__law_with_bound)))
    (g__law_with_heaps : PySem.W.nsIn K mainGlobals "_law_with_heaps" = some (some (.ref C__law_with_heaps)))
    (g__law_with_taking : PySem.W.nsIn K mainGlobals "_law_with_taking" = some (some (.ref C__law_with_taking)))
    (g__law_with_number : PySem.W.nsIn K mainGlobals "_law_with_number" = some (some (.ref C__law_with_number)))
    (a_is_whole : PySem.W.nsIn K mainGlobals "is_whole" = some (some (.ref f_is_whole)))
    (l_is_whole : K.lookup f_is_whole = some ⟨oc_is_whole, od_is_whole, .func (PySem.W.fnOf "is_whole" "is_whole" (L2.defArgs s_is_whole) (L2.defBody s_is_whole) (L2.defScope s_is_whole) .none kV_is_whole dc_is_whole pm_is_whole an_is_whole cd_is_whole ct_is_whole), sl_is_whole⟩)
    (c_is_whole : PySem.W.codeIn K cd_is_whole "is_whole" = true)
    (k_is_whole : PySem.W.keepIn K (.ref f_is_whole) = true)
    (a__is_there : PySem.W.nsIn K mainGlobals "_is_there" = some (some (.ref f__is_there)))
    (l__is_there : K.lookup f__is_there = some ⟨oc__is_there, od__is_there, .func (PySem.W.fnOf "_is_there" "_is_there" (L2.defArgs s__is_there) (L2.defBody s__is_there) (L2.defScope s__is_there) .none kV__is_there dc__is_there pm__is_there an__is_there cd__is_there ct__is_there), sl__is_there⟩)
    (c__is_there : PySem.W.codeIn K cd__is_there "_is_there" = true)
    (k__is_there : PySem.W.keepIn K (.ref f__is_there) = true)
    (a__is_let : PySem.W.nsIn K mainGlobals "_is_let" = some (some (.ref f__is_let)))
    (l__is_let : K.lookup f__is_let = some ⟨oc__is_let, od__is_let, .func (PySem.W.fnOf "_is_let" "_is_let" (L2.defArgs s__is_let) (L2.defBody s__is_let) (L2.defScope s__is_let) .none kV__is_let dc__is_let pm__is_let an__is_let cd__is_let ct__is_let), sl__is_let⟩)
    (c__is_let : PySem.W.codeIn K cd__is_let "_is_let" = true)
    (k__is_let : PySem.W.keepIn K (.ref f__is_let) = true)
    (a__law_cell_at : PySem.W.nsIn K mainGlobals "_law_cell_at" = some (some (.ref f__law_cell_at)))
    (l__law_cell_at : K.lookup f__law_cell_at = some ⟨oc__law_cell_at, od__law_cell_at, .func (PySem.W.fnOf "_law_cell_at" "_law_cell_at" (L2.defArgs s__law_cell_at) (L2.defBody s__law_cell_at) (L2.defScope s__law_cell_at) .none kV__law_cell_at dc__law_cell_at pm__law_cell_at an__law_cell_at cd__law_cell_at ct__law_cell_at), sl__law_cell_at⟩)
    (c__law_cell_at : PySem.W.codeIn K cd__law_cell_at "_law_cell_at" = true)
    (k__law_cell_at : PySem.W.keepIn K (.ref f__law_cell_at) = true)
    (a__law_kinds : PySem.W.nsIn K mainGlobals "_law_kinds" = some (some (.ref f__law_kinds)))
    (l__law_kinds : K.lookup f__law_kinds = some ⟨oc__law_kinds, od__law_kinds, .func (PySem.W.fnOf "_law_kinds" "_law_kinds" (L2.defArgs s__law_kinds) (L2.defBody s__law_kinds) (L2.defScope s__law_kinds) .none kV__law_kinds dc__law_kinds pm__law_kinds an__law_kinds cd__law_kinds ct__law_kinds), sl__law_kinds⟩)
    (c__law_kinds : PySem.W.codeIn K cd__law_kinds "_law_kinds" = true)
    (k__law_kinds : PySem.W.keepIn K (.ref f__law_kinds) = true)
    (a_is_pair : PySem.W.nsIn K mainGlobals "is_pair" = some (some (.ref f_is_pair)))
    (l_is_pair : K.lookup f_is_pair = some ⟨oc_is_pair, od_is_pair, .func (PySem.W.fnOf "is_pair" "is_pair" (L2.defArgs s_is_pair) (L2.defBody s_is_pair) (L2.defScope s_is_pair) .none kV_is_pair dc_is_pair pm_is_pair an_is_pair cd_is_pair ct_is_pair), sl_is_pair⟩)
    (c_is_pair : PySem.W.codeIn K cd_is_pair "is_pair" = true)
    (k_is_pair : PySem.W.keepIn K (.ref f_is_pair) = true)
    (a_is_bound : PySem.W.nsIn K mainGlobals "is_bound" = some (some (.ref f_is_bound)))
    (l_is_bound : K.lookup f_is_bound = some ⟨oc_is_bound, od_is_bound, .func (PySem.W.fnOf "is_bound" "is_bound" (L2.defArgs s_is_bound) (L2.defBody s_is_bound) (L2.defScope s_is_bound) .none kV_is_bound dc_is_bound pm_is_bound an_is_bound cd_is_bound ct_is_bound), sl_is_bound⟩)
    (c_is_bound : PySem.W.codeIn K cd_is_bound "is_bound" = true)
    (k_is_bound : PySem.W.keepIn K (.ref f_is_bound) = true)
    (a_check_number : PySem.W.nsIn K mainGlobals "check_number" = some (some (.ref f_check_number)))
    (l_check_number : K.lookup f_check_number = some ⟨oc_check_number, od_check_number, .func (PySem.W.fnOf "check_number" "check_number" (L2.defArgs s_check_number) (L2.defBody s_check_number) (L2.defScope s_check_number) .none kV_check_number dc_check_number pm_check_number an_check_number cd_check_number ct_check_number), sl_check_number⟩)
    (c_check_number : PySem.W.codeIn K cd_check_number "check_number" = true)
    (k_check_number : PySem.W.keepIn K (.ref f_check_number) = true)
    (a_are_heaps : PySem.W.nsIn K mainGlobals "are_heaps" = some (some (.ref f_are_heaps)))
    (l_are_heaps : K.lookup f_are_heaps = some ⟨oc_are_heaps, od_are_heaps, .func (PySem.W.fnOf "are_heaps" "are_heaps" (L2.defArgs s_are_heaps) (L2.defBody s_are_heaps) (L2.defScope s_are_heaps) .none kV_are_heaps dc_are_heaps pm_are_heaps an_are_heaps cd_are_heaps ct_are_heaps), sl_are_heaps⟩)
    (c_are_heaps : PySem.W.codeIn K cd_are_heaps "are_heaps" = true)
    (k_are_heaps : PySem.W.keepIn K (.ref f_are_heaps) = true)
    (a_check_bound : PySem.W.nsIn K mainGlobals "check_bound" = some (some (.ref f_check_bound)))
    (l_check_bound : K.lookup f_check_bound = some ⟨oc_check_bound, od_check_bound, .func (PySem.W.fnOf "check_bound" "check_bound" (L2.defArgs s_check_bound) (L2.defBody s_check_bound) (L2.defScope s_check_bound) .none kV_check_bound dc_check_bound pm_check_bound an_check_bound cd_check_bound ct_check_bound), sl_check_bound⟩)
    (c_check_bound : PySem.W.codeIn K cd_check_bound "check_bound" = true)
    (k_check_bound : PySem.W.keepIn K (.ref f_check_bound) = true)
    (a_check_heaps : PySem.W.nsIn K mainGlobals "check_heaps" = some (some (.ref f_check_heaps)))
    (l_check_heaps : K.lookup f_check_heaps = some ⟨oc_check_heaps, od_check_heaps, .func (PySem.W.fnOf "check_heaps" "check_heaps" (L2.defArgs s_check_heaps) (L2.defBody s_check_heaps) (L2.defScope s_check_heaps) .none kV_check_heaps dc_check_heaps pm_check_heaps an_check_heaps cd_check_heaps ct_check_heaps), sl_check_heaps⟩)
    (c_check_heaps : PySem.W.codeIn K cd_check_heaps "check_heaps" = true)
    (k_check_heaps : PySem.W.keepIn K (.ref f_check_heaps) = true)
    (a_pair_by : PySem.W.nsIn K mainGlobals "pair_by" = some (some (.ref f_pair_by)))
    (l_pair_by : K.lookup f_pair_by = some ⟨oc_pair_by, od_pair_by, .func (PySem.W.fnOf "pair_by" "pair_by" (L2.defArgs s_pair_by) (L2.defBody s_pair_by) (L2.defScope s_pair_by) .none kV_pair_by dc_pair_by pm_pair_by an_pair_by cd_pair_by ct_pair_by), sl_pair_by⟩)
    (c_pair_by : PySem.W.codeIn K cd_pair_by "pair_by" = true)
    (k_pair_by : PySem.W.keepIn K (.ref f_pair_by) = true)
    (a_pair_with : PySem.W.nsIn K mainGlobals "pair_with" = some (some (.ref f_pair_with)))
    (l_pair_with : K.lookup f_pair_with = some ⟨oc_pair_with, od_pair_with, .func (PySem.W.fnOf "pair_with" "pair_with" (L2.defArgs s_pair_with) (L2.defBody s_pair_with) (L2.defScope s_pair_with) .none kV_pair_with dc_pair_with pm_pair_with an_pair_with cd_pair_with ct_pair_with), sl_pair_with⟩)
    (c_pair_with : PySem.W.codeIn K cd_pair_with "pair_with" = true)
    (k_pair_with : PySem.W.keepIn K (.ref f_pair_with) = true)
    (a_can : PySem.W.nsIn K mainGlobals "can" = some (some (.ref f_can)))
    (l_can : K.lookup f_can = some ⟨oc_can, od_can, .func (PySem.W.fnOf "can" "can" (L2.defArgs s_can) (L2.defBody s_can) (L2.defScope s_can) .none kV_can dc_can pm_can an_can cd_can ct_can), sl_can⟩)
    (c_can : PySem.W.codeIn K cd_can "can" = true)
    (k_can : PySem.W.keepIn K (.ref f_can) = true)
    (a_told : PySem.W.nsIn K mainGlobals "told" = some (some (.ref f_told)))
    (l_told : K.lookup f_told = some ⟨oc_told, od_told, .func (PySem.W.fnOf "told" "told" (L2.defArgs s_told) (L2.defBody s_told) (L2.defScope s_told) .none kV_told dc_told pm_told an_told cd_told ct_told), sl_told⟩)
    (c_told : PySem.W.codeIn K cd_told "told" = true)
    (k_told : PySem.W.keepIn K (.ref f_told) = true)
    (a__law_with_number : PySem.W.nsIn K mainGlobals "_law_with_number" = some (some (.ref f__law_with_number)))
    (l__law_with_number : K.lookup f__law_with_number = some ⟨oc__law_with_number, od__law_with_number, .func (PySem.W.fnOf "_law_with_number" "_law_with_number" (L2.defArgs s__law_with_number) (L2.defBody s__law_with_number) (L2.defScope s__law_with_number) .none kV__law_with_number dc__law_with_number pm__law_with_number an__law_with_number cd__law_with_number ct__law_with_number), sl__law_with_number⟩)
    (c__law_with_number : PySem.W.codeIn K cd__law_with_number "_law_with_number" = true)
    (k__law_with_number : PySem.W.keepIn K (.ref f__law_with_number) = true)
    (a_left : PySem.W.nsIn K mainGlobals "left" = some (some (.ref f_left)))
    (l_left : K.lookup f_left = some ⟨oc_left, od_left, .func (PySem.W.fnOf "left" "left" (L2.defArgs s_left) (L2.defBody s_left) (L2.defScope s_left) .none kV_left dc_left pm_left an_left cd_left ct_left), sl_left⟩)
    (c_left : PySem.W.codeIn K cd_left "left" = true)
    (k_left : PySem.W.keepIn K (.ref f_left) = true)
    (a__law_with_bound : PySem.W.nsIn K mainGlobals "_law_with_bound" = some (some (.ref f__law_with_bound)))
    (l__law_with_bound : K.lookup f__law_with_bound = some ⟨oc__law_with_bound, od__law_with_bound, .func (PySem.W.fnOf "_law_with_bound" "_law_with_bound" (L2.defArgs s__law_with_bound) (L2.defBody s__law_with_bound) (L2.defScope s__law_with_bound) .none kV__law_with_bound dc__law_with_bound pm__law_with_bound an__law_with_bound cd__law_with_bound ct__law_with_bound), sl__law_with_bound⟩)
    (c__law_with_bound : PySem.W.codeIn K cd__law_with_bound "_law_with_bound" = true)
    (k__law_with_bound : PySem.W.keepIn K (.ref f__law_with_bound) = true)
    (a__law_with_heaps : PySem.W.nsIn K mainGlobals "_law_with_heaps" = some (some (.ref f__law_with_heaps)))
    (l__law_with_heaps : K.lookup f__law_with_heaps = some ⟨oc__law_with_heaps, od__law_with_heaps, .func (PySem.W.fnOf "_law_with_heaps" "_law_with_heaps" (L2.defArgs s__law_with_heaps) (L2.defBody s__law_with_heaps) (L2.defScope s__law_with_heaps) .none kV__law_with_heaps dc__law_with_heaps pm__law_with_heaps an__law_with_heaps cd__law_with_heaps ct__law_with_heaps), sl__law_with_heaps⟩)
    (c__law_with_heaps : PySem.W.codeIn K cd__law_with_heaps "_law_with_heaps" = true)
    (k__law_with_heaps : PySem.W.keepIn K (.ref f__law_with_heaps) = true)
    (a__law_with_taking : PySem.W.nsIn K mainGlobals "_law_with_taking" = some (some (.ref f__law_with_taking)))
    (l__law_with_taking : K.lookup f__law_with_taking = some ⟨oc__law_with_taking, od__law_with_taking, .func (PySem.W.fnOf "_law_with_taking" "_law_with_taking" (L2.defArgs s__law_with_taking) (L2.defBody s__law_with_taking) (L2.defScope s__law_with_taking) .none kV__law_with_taking dc__law_with_taking pm__law_with_taking an__law_with_taking cd__law_with_taking ct__law_with_taking), sl__law_with_taking⟩)
    (c__law_with_taking : PySem.W.codeIn K cd__law_with_taking "_law_with_taking" = true)
    (k__law_with_taking : PySem.W.keepIn K (.ref f__law_with_taking) = true)
    (a__law_told : PySem.W.nsIn K mainGlobals "_law_told" = some (some (.ref f__law_told)))
    (l__law_told : K.lookup f__law_told = some ⟨oc__law_told, od__law_told, .func (PySem.W.fnOf "_law_told" "_law_told" (L2.defArgs s__law_told) (L2.defBody s__law_told) (L2.defScope s__law_told) .none kV__law_told dc__law_told pm__law_told an__law_told cd__law_told ct__law_told), sl__law_told⟩)
    (c__law_told : PySem.W.codeIn K cd__law_told "_law_told" = true)
    (k__law_told : PySem.W.keepIn K (.ref f__law_told) = true)
    (a__law_all : PySem.W.nsIn K mainGlobals "_law_all" = some (some (.ref f__law_all)))
    (l__law_all : K.lookup f__law_all = some ⟨oc__law_all, od__law_all, .func (PySem.W.fnOf "_law_all" "_law_all" (L2.defArgs s__law_all) (L2.defBody s__law_all) (L2.defScope s__law_all) .none kV__law_all dc__law_all pm__law_all an__law_all cd__law_all ct__law_all), sl__law_all⟩)
    (c__law_all : PySem.W.codeIn K cd__law_all "_law_all" = true)
    (k__law_all : PySem.W.keepIn K (.ref f__law_all) = true)
    (a_law : PySem.W.nsIn K mainGlobals "law" = some (some (.ref f_law)))
    (l_law : K.lookup f_law = some ⟨oc_law, od_law, .func (PySem.W.fnOf "law" "law" (L2.defArgs s_law) (L2.defBody s_law) (L2.defScope s_law) .none kV_law dc_law pm_law an_law cd_law ct_law), sl_law⟩)
    (c_law : PySem.W.codeIn K cd_law "law" = true)
    (k_law : PySem.W.keepIn K (.ref f_law) = true)
    (z_ValueError : PySem.W.nsIn K mainGlobals "ValueError" = some none)
    (z_abs : PySem.W.nsIn K mainGlobals "abs" = some none)
    (z_all : PySem.W.nsIn K mainGlobals "all" = some none)
    (z_bool : PySem.W.nsIn K mainGlobals "bool" = some none)
    (z_int : PySem.W.nsIn K mainGlobals "int" = some none)
    (z_isinstance : PySem.W.nsIn K mainGlobals "isinstance" = some none)
    (z_len : PySem.W.nsIn K mainGlobals "len" = some none)
    (z_range : PySem.W.nsIn K mainGlobals "range" = some none)
    (z_tuple : PySem.W.nsIn K mainGlobals "tuple" = some none)
    (b_HE : PySem.W.subIn K (.ref C_HeapError) (.type "BaseException") = some true)
    (d_HE : PySem.W.hasDictIn K C_HeapError = true)
    (t_HE : PySem.W.typeIn K (.ref C_HeapError) = some (.type "type"))
    (xg : PySem.W.specialIn K (.builtin "object.__class__") "__get__" = some (some (.builtin "getset_descriptor.__get__")))
    (xt : PySem.W.takesIn K (.builtin "object.__class__") = some true)
    (x_BB : PySem.W.excIn K C_BadBound [.type "ValueError", .type "Exception", .type "BaseException", .type "object"] "ValueError.__new__" = true)
    (kp_BB : PySem.W.keepIn K (.ref C_BadBound) = true)
    (b_BB : PySem.W.subIn K (.ref C_BadBound) (.type "BaseException") = some true)
    (t_BB : PySem.W.typeIn K (.ref C_BadBound) = some (.type "type"))
    (s_BB : PySem.W.subIn K (.ref C_BadBound) (.ref C_HeapError) = some true)
    (ga_BB : PySem.W.findIn K (.ref C_BadBound) "__getattribute__" = some (some (.builtin "BaseException.__getattribute__")))
    (gg_BB : PySem.W.findIn K (.ref C_BadBound) "__getattr__" = some none)
    (hd_BB : PySem.W.hasDictIn K C_BadBound = true)
    (cc_BB : PySem.W.findIn K (.ref C_BadBound) "__class__" = some (some (.builtin "object.__class__")))
    (mo_BB : PySem.W.mroIn K C_BadBound (.type "object") = some true)
    (v_BB : PySem.W.kitOne K (.ref C_BadBound) (.type "ValueError") = some true)
    (k_BB_BB : PySem.W.kitOne K (.ref C_BadBound) (.ref C_BadBound) = some true)
    (k_BB_BH : PySem.W.kitOne K (.ref C_BadBound) (.ref C_BadHeaps) = some false)
    (k_BB_BT : PySem.W.kitOne K (.ref C_BadBound) (.ref C_BadTaking) = some false)
    (k_BB_BN : PySem.W.kitOne K (.ref C_BadBound) (.ref C_BadNumber) = some false)
    (x_BH : PySem.W.excIn K C_BadHeaps [.type "ValueError", .type "Exception", .type "BaseException", .type "object"] "ValueError.__new__" = true)
    (kp_BH : PySem.W.keepIn K (.ref C_BadHeaps) = true)
    (b_BH : PySem.W.subIn K (.ref C_BadHeaps) (.type "BaseException") = some true)
    (t_BH : PySem.W.typeIn K (.ref C_BadHeaps) = some (.type "type"))
    (s_BH : PySem.W.subIn K (.ref C_BadHeaps) (.ref C_HeapError) = some true)
    (ga_BH : PySem.W.findIn K (.ref C_BadHeaps) "__getattribute__" = some (some (.builtin "BaseException.__getattribute__")))
    (gg_BH : PySem.W.findIn K (.ref C_BadHeaps) "__getattr__" = some none)
    (hd_BH : PySem.W.hasDictIn K C_BadHeaps = true)
    (cc_BH : PySem.W.findIn K (.ref C_BadHeaps) "__class__" = some (some (.builtin "object.__class__")))
    (mo_BH : PySem.W.mroIn K C_BadHeaps (.type "object") = some true)
    (v_BH : PySem.W.kitOne K (.ref C_BadHeaps) (.type "ValueError") = some true)
    (k_BH_BB : PySem.W.kitOne K (.ref C_BadHeaps) (.ref C_BadBound) = some false)
    (k_BH_BH : PySem.W.kitOne K (.ref C_BadHeaps) (.ref C_BadHeaps) = some true)
    (k_BH_BT : PySem.W.kitOne K (.ref C_BadHeaps) (.ref C_BadTaking) = some false)
    (k_BH_BN : PySem.W.kitOne K (.ref C_BadHeaps) (.ref C_BadNumber) = some false)
    (x_BT : PySem.W.excIn K C_BadTaking [.type "ValueError", .type "Exception", .type "BaseException", .type "object"] "ValueError.__new__" = true)
    (kp_BT : PySem.W.keepIn K (.ref C_BadTaking) = true)
    (b_BT : PySem.W.subIn K (.ref C_BadTaking) (.type "BaseException") = some true)
    (t_BT : PySem.W.typeIn K (.ref C_BadTaking) = some (.type "type"))
    (s_BT : PySem.W.subIn K (.ref C_BadTaking) (.ref C_HeapError) = some true)
    (ga_BT : PySem.W.findIn K (.ref C_BadTaking) "__getattribute__" = some (some (.builtin "BaseException.__getattribute__")))
    (gg_BT : PySem.W.findIn K (.ref C_BadTaking) "__getattr__" = some none)
    (hd_BT : PySem.W.hasDictIn K C_BadTaking = true)
    (cc_BT : PySem.W.findIn K (.ref C_BadTaking) "__class__" = some (some (.builtin "object.__class__")))
    (mo_BT : PySem.W.mroIn K C_BadTaking (.type "object") = some true)
    (v_BT : PySem.W.kitOne K (.ref C_BadTaking) (.type "ValueError") = some true)
    (k_BT_BB : PySem.W.kitOne K (.ref C_BadTaking) (.ref C_BadBound) = some false)
    (k_BT_BH : PySem.W.kitOne K (.ref C_BadTaking) (.ref C_BadHeaps) = some false)
    (k_BT_BT : PySem.W.kitOne K (.ref C_BadTaking) (.ref C_BadTaking) = some true)
    (k_BT_BN : PySem.W.kitOne K (.ref C_BadTaking) (.ref C_BadNumber) = some false)
    (x_BN : PySem.W.excIn K C_BadNumber [.type "ValueError", .type "Exception", .type "BaseException", .type "object"] "ValueError.__new__" = true)
    (kp_BN : PySem.W.keepIn K (.ref C_BadNumber) = true)
    (b_BN : PySem.W.subIn K (.ref C_BadNumber) (.type "BaseException") = some true)
    (t_BN : PySem.W.typeIn K (.ref C_BadNumber) = some (.type "type"))
    (s_BN : PySem.W.subIn K (.ref C_BadNumber) (.ref C_HeapError) = some true)
    (ga_BN : PySem.W.findIn K (.ref C_BadNumber) "__getattribute__" = some (some (.builtin "BaseException.__getattribute__")))
    (gg_BN : PySem.W.findIn K (.ref C_BadNumber) "__getattr__" = some none)
    (hd_BN : PySem.W.hasDictIn K C_BadNumber = true)
    (cc_BN : PySem.W.findIn K (.ref C_BadNumber) "__class__" = some (some (.builtin "object.__class__")))
    (mo_BN : PySem.W.mroIn K C_BadNumber (.type "object") = some true)
    (v_BN : PySem.W.kitOne K (.ref C_BadNumber) (.type "ValueError") = some true)
    (k_BN_BB : PySem.W.kitOne K (.ref C_BadNumber) (.ref C_BadBound) = some false)
    (k_BN_BH : PySem.W.kitOne K (.ref C_BadNumber) (.ref C_BadHeaps) = some false)
    (k_BN_BT : PySem.W.kitOne K (.ref C_BadNumber) (.ref C_BadTaking) = some false)
    (k_BN_BN : PySem.W.kitOne K (.ref C_BadNumber) (.ref C_BadNumber) = some true)
    : ∃ fd : FuncData, (∀ (s : Shared) (u : Value), BindsTo s fd ⟨[u], []⟩ [("_law_script", u)]) ∧ ∀ base : Heap, K.In base → base.Ns mainGlobals mg → FnOk P w K mg base CX0 11 fa fd ["_law_script"] (sp_law K cs0) := by
  have e := hfa.symm.trans (PySem.W.mg_of X G a_law)
  cases e
  have T : Txt K mg (Cs.mk C_HeapError C_BadBound C_BadHeaps C_BadTaking C_BadNumber C__law_with_bound C__law_with_heaps C__law_with_taking C__law_with_number) := { n_ValueError := PySem.W.mg_none_of X G z_ValueError, n_abs := PySem.W.mg_none_of X G z_abs, n_all := PySem.W.mg_none_of X G z_all, n_bool := PySem.W.mg_none_of X G z_bool, n_int := PySem.W.mg_none_of X G z_int, n_isinstance := PySem.W.mg_none_of X G z_isinstance, n_len := PySem.W.mg_none_of X G z_len, n_range := PySem.W.mg_none_of X G z_range, n_tuple := PySem.W.mg_none_of X G z_tuple, g_HeapError := PySem.W.mg_of X G g_HeapError, g_BadBound := PySem.W.mg_of X G g_BadBound, g_BadHeaps := PySem.W.mg_of X G g_BadHeaps, g_BadTaking := PySem.W.mg_of X G g_BadTaking, g_BadNumber := PySem.W.mg_of X G g_BadNumber, g__law_with_bound := PySem.W.mg_of X G g__law_with_bound, g__law_with_heaps := PySem.W.mg_of X G g__law_with_heaps, g__law_with_taking := PySem.W.mg_of X G g__law_with_taking, g__law_with_number := PySem.W.mg_of X G g__law_with_number, x_BB := x_BB, kp_BB := kp_BB, b_BB := b_BB, t_BB := t_BB, e_BB := PySem.W.exm_ref b_HE d_HE t_HE s_BB, i_BB := ⟨ga_BB, gg_BB, b_BB, hd_BB, cc_BB, xg, xt, mo_BB⟩, v_BB := v_BB, k_BB_BB := k_BB_BB, k_BB_BH := k_BB_BH, k_BB_BT := k_BB_BT, k_BB_BN := k_BB_BN, x_BH := x_BH, kp_BH := kp_BH, b_BH := b_BH, t_BH := t_BH, e_BH := PySem.W.exm_ref b_HE d_HE t_HE s_BH, i_BH := ⟨ga_BH, gg_BH, b_BH, hd_BH, cc_BH, xg, xt, mo_BH⟩, v_BH := v_BH, k_BH_BB := k_BH_BB, k_BH_BH := k_BH_BH, k_BH_BT := k_BH_BT, k_BH_BN := k_BH_BN, x_BT := x_BT, kp_BT := kp_BT, b_BT := b_BT, t_BT := t_BT, e_BT := PySem.W.exm_ref b_HE d_HE t_HE s_BT, i_BT := ⟨ga_BT, gg_BT, b_BT, hd_BT, cc_BT, xg, xt, mo_BT⟩, v_BT := v_BT, k_BT_BB := k_BT_BB, k_BT_BH := k_BT_BH, k_BT_BT := k_BT_BT, k_BT_BN := k_BT_BN, x_BN := x_BN, kp_BN := kp_BN, b_BN := b_BN, t_BN := t_BN, e_BN := PySem.W.exm_ref b_HE d_HE t_HE s_BN, i_BN := ⟨ga_BN, gg_BN, b_BN, hd_BN, cc_BN, xg, xt, mo_BN⟩, v_BN := v_BN, k_BN_BB := k_BN_BB, k_BN_BH := k_BN_BH, k_BN_BT := k_BN_BT, k_BN_BN := k_BN_BN }
  have F_is_whole := L2.fun_mk (st := s_is_whole) l_is_whole c_is_whole k_is_whole
  have b_is_whole := F_is_whole.binds (ps := ["value"]) fun _ _ _ _ _ _ us hl => match us, hl with | [_], _ => rfl
  have F__is_there := L2.fun_mk (st := s__is_there) l__is_there c__is_there k__is_there
  have b__is_there := F__is_there.binds (ps := ["heaps", "taking"]) fun _ _ _ _ _ _ us hl => match us, hl with | [_, _], _ => rfl
  have F__is_let := L2.fun_mk (st := s__is_let) l__is_let c__is_let k__is_let
  have b__is_let := F__is_let.binds (ps := ["bound", "taking"]) fun _ _ _ _ _ _ us hl => match us, hl with | [_, _], _ => rfl
  have F__law_cell_at := L2.fun_mk (st := s__law_cell_at) l__law_cell_at c__law_cell_at k__law_cell_at
  have b__law_cell_at := F__law_cell_at.binds (ps := ["_law_script", "_law_k"]) fun _ _ _ _ _ _ us hl => match us, hl with | [_, _], _ => rfl
  have F__law_kinds := L2.fun_mk (st := s__law_kinds) l__law_kinds c__law_kinds k__law_kinds
  have b__law_kinds := F__law_kinds.binds (ps := ["_law_error"]) fun _ _ _ _ _ _ us hl => match us, hl with | [_], _ => rfl
  have F_is_pair := L2.fun_mk (st := s_is_pair) l_is_pair c_is_pair k_is_pair
  have b_is_pair := F_is_pair.binds (ps := ["value"]) fun _ _ _ _ _ _ us hl => match us, hl with | [_], _ => rfl
  have F_is_bound := L2.fun_mk (st := s_is_bound) l_is_bound c_is_bound k_is_bound
  have b_is_bound := F_is_bound.binds (ps := ["value"]) fun _ _ _ _ _ _ us hl => match us, hl with | [_], _ => rfl
  have F_check_number := L2.fun_mk (st := s_check_number) l_check_number c_check_number k_check_number
  have b_check_number := F_check_number.binds (ps := ["number", "first"]) fun _ _ _ _ _ _ us hl => match us, hl with | [_, _], _ => rfl
  have F_are_heaps := L2.fun_mk (st := s_are_heaps) l_are_heaps c_are_heaps k_are_heaps
  have b_are_heaps := F_are_heaps.binds (ps := ["value"]) fun _ _ _ _ _ _ us hl => match us, hl with | [_], _ => rfl
  have F_check_bound := L2.fun_mk (st := s_check_bound) l_check_bound c_check_bound k_check_bound
  have b_check_bound := F_check_bound.binds (ps := ["bound"]) fun _ _ _ _ _ _ us hl => match us, hl with | [_], _ => rfl
  have F_check_heaps := L2.fun_mk (st := s_check_heaps) l_check_heaps c_check_heaps k_check_heaps
  have b_check_heaps := F_check_heaps.binds (ps := ["heaps"]) fun _ _ _ _ _ _ us hl => match us, hl with | [_], _ => rfl
  have F_pair_by := L2.fun_mk (st := s_pair_by) l_pair_by c_pair_by k_pair_by
  have b_pair_by := F_pair_by.binds (ps := ["bound", "number"]) fun _ _ _ _ _ _ us hl => match us, hl with | [_, _], _ => rfl
  have F_pair_with := L2.fun_mk (st := s_pair_with) l_pair_with c_pair_with k_pair_with
  have b_pair_with := F_pair_with.binds (ps := ["bound", "number"]) fun _ _ _ _ _ _ us hl => match us, hl with | [_, _], _ => rfl
  have F_can := L2.fun_mk (st := s_can) l_can c_can k_can
  have b_can := F_can.binds (ps := ["bound", "heaps", "taking"]) fun _ _ _ _ _ _ us hl => match us, hl with | [_, _, _], _ => rfl
  have F_told := L2.fun_mk (st := s_told) l_told c_told k_told
  have b_told := F_told.binds (ps := ["bound", "heaps"]) fun _ _ _ _ _ _ us hl => match us, hl with | [_, _], _ => rfl
  have F__law_with_number := L2.fun_mk (st := s__law_with_number) l__law_with_number c__law_with_number k__law_with_number
  have b__law_with_number := F__law_with_number.binds (ps := ["_law_door", "_law_number"]) fun _ _ _ _ _ _ us hl => match us, hl with | [_, _], _ => rfl
  have F_left := L2.fun_mk (st := s_left) l_left c_left k_left
  have b_left := F_left.binds (ps := ["bound", "heaps", "taking"]) fun _ _ _ _ _ _ us hl => match us, hl with | [_, _, _], _ => rfl
  have F__law_with_bound := L2.fun_mk (st := s__law_with_bound) l__law_with_bound c__law_with_bound k__law_with_bound
  have b__law_with_bound := F__law_with_bound.binds (ps := ["_law_door", "_law_bound"]) fun _ _ _ _ _ _ us hl => match us, hl with | [_, _], _ => rfl
  have F__law_with_heaps := L2.fun_mk (st := s__law_with_heaps) l__law_with_heaps c__law_with_heaps k__law_with_heaps
  have b__law_with_heaps := F__law_with_heaps.binds (ps := ["_law_door", "_law_heaps"]) fun _ _ _ _ _ _ us hl => match us, hl with | [_, _], _ => rfl
  have F__law_with_taking := L2.fun_mk (st := s__law_with_taking) l__law_with_taking c__law_with_taking k__law_with_taking
  have b__law_with_taking := F__law_with_taking.binds (ps := ["_law_door", "_law_taking"]) fun _ _ _ _ _ _ us hl => match us, hl with | [_, _], _ => rfl
  have F__law_told := L2.fun_mk (st := s__law_told) l__law_told c__law_told k__law_told
  have b__law_told := F__law_told.binds (ps := ["_law_ask", "_law_door", "_law_thing"]) fun _ _ _ _ _ _ us hl => match us, hl with | [_, _, _], _ => rfl
  have F__law_all := L2.fun_mk (st := s__law_all) l__law_all c__law_all k__law_all
  have b__law_all := F__law_all.binds (ps := ["_law_ask", "_law_doors", "_law_things", "_law_due"]) fun _ _ _ _ _ _ us hl => match us, hl with | [_, _, _, _], _ => rfl
  have F_law := L2.fun_mk (st := s_law) l_law c_law k_law
  have b_law := F_law.binds (ps := ["_law_script"]) fun _ _ _ _ _ _ us hl => match us, hl with | [_], _ => rfl
  refine ⟨PySem.W.fnOf "law" "law" (L2.defArgs s_law) (L2.defBody s_law) (L2.defScope s_law) .none kV_law dc_law pm_law an_law cd_law ct_law, fun s u => .of_eq rfl, fun base _ _ => ?_⟩
  have kis_whole : C8.Cal P w K mg base 1 "is_whole" (sp_is_whole K (Cs.mk C_HeapError C_BadBound C_BadHeaps C_BadTaking C_BadNumber C__law_with_bound C__law_with_heaps C__law_with_taking C__law_with_number)) [] := ⟨f_is_whole, _, _, [], ok_is_whole (cs := (Cs.mk C_HeapError C_BadBound C_BadHeaps C_BadTaking C_BadNumber C__law_with_bound C__law_with_heaps C__law_with_taking C__law_with_number)) (P := P) (w := w) (base := base) F_is_whole T, PySem.W.mg_of X G a_is_whole, k_is_whole, b_is_whole, .nil⟩
  have k_is_there : C8.Cal P w K mg base 1 "_is_there" (sp__is_there K (Cs.mk C_HeapError C_BadBound C_BadHeaps C_BadTaking C_BadNumber C__law_with_bound C__law_with_heaps C__law_with_taking C__law_with_number)) [] := ⟨f__is_there, _, _, [], ok__is_there (cs := (Cs.mk C_HeapError C_BadBound C_BadHeaps C_BadTaking C_BadNumber C__law_with_bound C__law_with_heaps C__law_with_taking C__law_with_number)) (P := P) (w := w) (base := base) F__is_there T, PySem.W.mg_of X G a__is_there, k__is_there, b__is_there, .nil⟩
  have k_is_let : C8.Cal P w K mg base 1 "_is_let" (sp__is_let K (Cs.mk C_HeapError C_BadBound C_BadHeaps C_BadTaking C_BadNumber C__law_with_bound C__law_with_heaps C__law_with_taking C__law_with_number)) [] := ⟨f__is_let, _, _, [], ok__is_let (cs := (Cs.mk C_HeapError C_BadBound C_BadHeaps C_BadTaking C_BadNumber C__law_with_bound C__law_with_heaps C__law_with_taking C__law_with_number)) (P := P) (w := w) (base := base) F__is_let T, PySem.W.mg_of X G a__is_let, k__is_let, b__is_let, .nil⟩
  have k_law_cell_at : C8.Cal P w K mg base 1 "_law_cell_at" (sp__law_cell_at K (Cs.mk C_HeapError C_BadBound C_BadHeaps C_BadTaking C_BadNumber C__law_with_bound C__law_with_heaps C__law_with_taking C__law_with_number)) [] := ⟨f__law_cell_at, _, _, [], ok__law_cell_at (cs := (Cs.mk C_HeapError C_BadBound C_BadHeaps C_BadTaking C_BadNumber C__law_with_bound C__law_with_heaps C__law_with_taking C__law_with_number)) (P := P) (w := w) (base := base) F__law_cell_at T, PySem.W.mg_of X G a__law_cell_at, k__law_cell_at, b__law_cell_at, .nil⟩
  have k_law_kinds : CalP P w K mg base 1 "_law_kinds" ["_law_error"] (sp__law_kinds K (Cs.mk C_HeapError C_BadBound C_BadHeaps C_BadTaking C_BadNumber C__law_with_bound C__law_with_heaps C__law_with_taking C__law_with_number)) := ⟨f__law_kinds, _, ok__law_kinds (cs := (Cs.mk C_HeapError C_BadBound C_BadHeaps C_BadTaking C_BadNumber C__law_with_bound C__law_with_heaps C__law_with_taking C__law_with_number)) (P := P) (w := w) (base := base) F__law_kinds T, PySem.W.mg_of X G a__law_kinds, k__law_kinds, b__law_kinds⟩
  have kis_pair : C8.Cal P w K mg base 2 "is_pair" (sp_is_pair K (Cs.mk C_HeapError C_BadBound C_BadHeaps C_BadTaking C_BadNumber C__law_with_bound C__law_with_heaps C__law_with_taking C__law_with_number)) [] := ⟨f_is_pair, _, _, [], ok_is_pair (cs := (Cs.mk C_HeapError C_BadBound C_BadHeaps C_BadTaking C_BadNumber C__law_with_bound C__law_with_heaps C__law_with_taking C__law_with_number)) (P := P) (w := w) (base := base) F_is_pair T kis_whole, PySem.W.mg_of X G a_is_pair, k_is_pair, b_is_pair, .nil⟩
  have kis_bound : C8.Cal P w K mg base 2 "is_bound" (sp_is_bound K (Cs.mk C_HeapError C_BadBound C_BadHeaps C_BadTaking C_BadNumber C__law_with_bound C__law_with_heaps C__law_with_taking C__law_with_number)) [] := ⟨f_is_bound, _, _, [], ok_is_bound (cs := (Cs.mk C_HeapError C_BadBound C_BadHeaps C_BadTaking C_BadNumber C__law_with_bound C__law_with_heaps C__law_with_taking C__law_with_number)) (P := P) (w := w) (base := base) F_is_bound T kis_whole, PySem.W.mg_of X G a_is_bound, k_is_bound, b_is_bound, .nil⟩
  have kcheck_number : CalN P w K mg base 2 "check_number" ["number", "first"] (sp_check_number K (Cs.mk C_HeapError C_BadBound C_BadHeaps C_BadTaking C_BadNumber C__law_with_bound C__law_with_heaps C__law_with_taking C__law_with_number)) := ⟨f_check_number, _, ok_check_number (cs := (Cs.mk C_HeapError C_BadBound C_BadHeaps C_BadTaking C_BadNumber C__law_with_bound C__law_with_heaps C__law_with_taking C__law_with_number)) (P := P) (w := w) (base := base) F_check_number T kis_whole, PySem.W.mg_of X G a_check_number, k_check_number, b_check_number⟩
  have kare_heaps : C8.Cal P w K mg base 3 "are_heaps" (sp_are_heaps K (Cs.mk C_HeapError C_BadBound C_BadHeaps C_BadTaking C_BadNumber C__law_with_bound C__law_with_heaps C__law_with_taking C__law_with_number)) [] := ⟨f_are_heaps, _, _, [], ok_are_heaps (cs := (Cs.mk C_HeapError C_BadBound C_BadHeaps C_BadTaking C_BadNumber C__law_with_bound C__law_with_heaps C__law_with_taking C__law_with_number)) (P := P) (w := w) (base := base) F_are_heaps T kis_pair, PySem.W.mg_of X G a_are_heaps, k_are_heaps, b_are_heaps, .nil⟩
  have kcheck_bound : CalN P w K mg base 3 "check_bound" ["bound"] (sp_check_bound K (Cs.mk C_HeapError C_BadBound C_BadHeaps C_BadTaking C_BadNumber C__law_with_bound C__law_with_heaps C__law_with_taking C__law_with_number)) := ⟨f_check_bound, _, ok_check_bound (cs := (Cs.mk C_HeapError C_BadBound C_BadHeaps C_BadTaking C_BadNumber C__law_with_bound C__law_with_heaps C__law_with_taking C__law_with_number)) (P := P) (w := w) (base := base) F_check_bound T kis_bound, PySem.W.mg_of X G a_check_bound, k_check_bound, b_check_bound⟩
  have kcheck_heaps : CalN P w K mg base 4 "check_heaps" ["heaps"] (sp_check_heaps K (Cs.mk C_HeapError C_BadBound C_BadHeaps C_BadTaking C_BadNumber C__law_with_bound C__law_with_heaps C__law_with_taking C__law_with_number)) := ⟨f_check_heaps, _, ok_check_heaps (cs := (Cs.mk C_HeapError C_BadBound C_BadHeaps C_BadTaking C_BadNumber C__law_with_bound C__law_with_heaps C__law_with_taking C__law_with_number)) (P := P) (w := w) (base := base) F_check_heaps T kare_heaps, PySem.W.mg_of X G a_check_heaps, k_check_heaps, b_check_heaps⟩
  have kpair_by : CalN P w K mg base 4 "pair_by" ["bound", "number"] (sp_pair_by K (Cs.mk C_HeapError C_BadBound C_BadHeaps C_BadTaking C_BadNumber C__law_with_bound C__law_with_heaps C__law_with_taking C__law_with_number)) := ⟨f_pair_by, _, ok_pair_by (cs := (Cs.mk C_HeapError C_BadBound C_BadHeaps C_BadTaking C_BadNumber C__law_with_bound C__law_with_heaps C__law_with_taking C__law_with_number)) (P := P) (w := w) (base := base) F_pair_by T kcheck_number kcheck_bound, PySem.W.mg_of X G a_pair_by, k_pair_by, b_pair_by⟩
  have kpair_with : CalN P w K mg base 4 "pair_with" ["bound", "number"] (sp_pair_with K (Cs.mk C_HeapError C_BadBound C_BadHeaps C_BadTaking C_BadNumber C__law_with_bound C__law_with_heaps C__law_with_taking C__law_with_number)) := ⟨f_pair_with, _, ok_pair_with (cs := (Cs.mk C_HeapError C_BadBound C_BadHeaps C_BadTaking C_BadNumber C__law_with_bound C__law_with_heaps C__law_with_taking C__law_with_number)) (P := P) (w := w) (base := base) F_pair_with T kcheck_number kcheck_bound, PySem.W.mg_of X G a_pair_with, k_pair_with, b_pair_with⟩
  have kcan : CalN P w K mg base 5 "can" ["bound", "heaps", "taking"] (sp_can K (Cs.mk C_HeapError C_BadBound C_BadHeaps C_BadTaking C_BadNumber C__law_with_bound C__law_with_heaps C__law_with_taking C__law_with_number)) := ⟨f_can, _, ok_can (cs := (Cs.mk C_HeapError C_BadBound C_BadHeaps C_BadTaking C_BadNumber C__law_with_bound C__law_with_heaps C__law_with_taking C__law_with_number)) (P := P) (w := w) (base := base) F_can T k_is_there k_is_let kis_pair kcheck_bound kcheck_heaps, PySem.W.mg_of X G a_can, k_can, b_can⟩
  have ktold : CalN P w K mg base 5 "told" ["bound", "heaps"] (sp_told K (Cs.mk C_HeapError C_BadBound C_BadHeaps C_BadTaking C_BadNumber C__law_with_bound C__law_with_heaps C__law_with_taking C__law_with_number)) := ⟨f_told, _, ok_told (cs := (Cs.mk C_HeapError C_BadBound C_BadHeaps C_BadTaking C_BadNumber C__law_with_bound C__law_with_heaps C__law_with_taking C__law_with_number)) (P := P) (w := w) (base := base) F_told T kcheck_bound kcheck_heaps, PySem.W.mg_of X G a_told, k_told, b_told⟩
  have k_law_with_number : CalN P w K mg base 5 "_law_with_number" ["_law_door", "_law_number"] (sp__law_with_number K (Cs.mk C_HeapError C_BadBound C_BadHeaps C_BadTaking C_BadNumber C__law_with_bound C__law_with_heaps C__law_with_taking C__law_with_number)) := ⟨f__law_with_number, _, ok__law_with_number (cs := (Cs.mk C_HeapError C_BadBound C_BadHeaps C_BadTaking C_BadNumber C__law_with_bound C__law_with_heaps C__law_with_taking C__law_with_number)) (P := P) (w := w) (base := base) F__law_with_number T kpair_by kpair_with, PySem.W.mg_of X G a__law_with_number, k__law_with_number, b__law_with_number⟩
  have kleft : CalN P w K mg base 6 "left" ["bound", "heaps", "taking"] (sp_left K (Cs.mk C_HeapError C_BadBound C_BadHeaps C_BadTaking C_BadNumber C__law_with_bound C__law_with_heaps C__law_with_taking C__law_with_number)) := ⟨f_left, _, ok_left (cs := (Cs.mk C_HeapError C_BadBound C_BadHeaps C_BadTaking C_BadNumber C__law_with_bound C__law_with_heaps C__law_with_taking C__law_with_number)) (P := P) (w := w) (base := base) F_left T kcan, PySem.W.mg_of X G a_left, k_left, b_left⟩
  have k_law_with_bound : CalN P w K mg base 7 "_law_with_bound" ["_law_door", "_law_bound"] (sp__law_with_bound K (Cs.mk C_HeapError C_BadBound C_BadHeaps C_BadTaking C_BadNumber C__law_with_bound C__law_with_heaps C__law_with_taking C__law_with_number)) := ⟨f__law_with_bound, _, ok__law_with_bound (cs := (Cs.mk C_HeapError C_BadBound C_BadHeaps C_BadTaking C_BadNumber C__law_with_bound C__law_with_heaps C__law_with_taking C__law_with_number)) (P := P) (w := w) (base := base) F__law_with_bound T kpair_by kpair_with kcan ktold kleft, PySem.W.mg_of X G a__law_with_bound, k__law_with_bound, b__law_with_bound⟩
  have k_law_with_heaps : CalN P w K mg base 7 "_law_with_heaps" ["_law_door", "_law_heaps"] (sp__law_with_heaps K (Cs.mk C_HeapError C_BadBound C_BadHeaps C_BadTaking C_BadNumber C__law_with_bound C__law_with_heaps C__law_with_taking C__law_with_number)) := ⟨f__law_with_heaps, _, ok__law_with_heaps (cs := (Cs.mk C_HeapError C_BadBound C_BadHeaps C_BadTaking C_BadNumber C__law_with_bound C__law_with_heaps C__law_with_taking C__law_with_number)) (P := P) (w := w) (base := base) F__law_with_heaps T kcan ktold kleft, PySem.W.mg_of X G a__law_with_heaps, k__law_with_heaps, b__law_with_heaps⟩
  have k_law_with_taking : CalN P w K mg base 7 "_law_with_taking" ["_law_door", "_law_taking"] (sp__law_with_taking K (Cs.mk C_HeapError C_BadBound C_BadHeaps C_BadTaking C_BadNumber C__law_with_bound C__law_with_heaps C__law_with_taking C__law_with_number)) := ⟨f__law_with_taking, _, ok__law_with_taking (cs := (Cs.mk C_HeapError C_BadBound C_BadHeaps C_BadTaking C_BadNumber C__law_with_bound C__law_with_heaps C__law_with_taking C__law_with_number)) (P := P) (w := w) (base := base) F__law_with_taking T kcan kleft, PySem.W.mg_of X G a__law_with_taking, k__law_with_taking, b__law_with_taking⟩
  have k_law_told : C8.Cal P w K mg base 9 "_law_told" (sp__law_told K (Cs.mk C_HeapError C_BadBound C_BadHeaps C_BadTaking C_BadNumber C__law_with_bound C__law_with_heaps C__law_with_taking C__law_with_number)) [] := ⟨f__law_told, _, _, [], ok__law_told (cs := (Cs.mk C_HeapError C_BadBound C_BadHeaps C_BadTaking C_BadNumber C__law_with_bound C__law_with_heaps C__law_with_taking C__law_with_number)) (P := P) (w := w) (base := base) F__law_told T k_law_kinds k_law_with_number k_law_with_bound k_law_with_heaps k_law_with_taking, PySem.W.mg_of X G a__law_told, k__law_told, b__law_told, .nil⟩
  have k_law_all : C8.Cal P w K mg base 10 "_law_all" (sp__law_all K (Cs.mk C_HeapError C_BadBound C_BadHeaps C_BadTaking C_BadNumber C__law_with_bound C__law_with_heaps C__law_with_taking C__law_with_number)) [] := ⟨f__law_all, _, _, [], ok__law_all (cs := (Cs.mk C_HeapError C_BadBound C_BadHeaps C_BadTaking C_BadNumber C__law_with_bound C__law_with_heaps C__law_with_taking C__law_with_number)) (P := P) (w := w) (base := base) F__law_all T k_law_told, PySem.W.mg_of X G a__law_all, k__law_all, b__law_all, .nil⟩
  exact ok_law (cs := (Cs.mk C_HeapError C_BadBound C_BadHeaps C_BadTaking C_BadNumber C__law_with_bound C__law_with_heaps C__law_with_taking C__law_with_number)) (P := P) (w := w) (base := base) F_law T k_law_cell_at kcan kleft k_law_all
theorem walk_law {l : PySem.W.OpenLaw} {q : Program} {loose : List Str} {XP : (Str → Option Value) → Heap → Prop} {YP : World → Heap → Prop} {d : DefRec} {K : Params → PySem.W.Frag} (hn : l.most = some 63) (hdf : d.params.defaults = [])
    (hY : ∀ (w : World) (h : Heap), YP w h → (K w.params).In h)
    (F : ∀ (w : World) (mg : Str → Option Value) (fa : Addr) (h : Heap), (K w.params).In h → h.Ns mainGlobals mg → mg d.name = some (.ref fa) →
      ∃ fd : FuncData, (∀ (s : Shared) (u : Value), BindsTo s fd ⟨[u], []⟩ [("_law_script", u)]) ∧ ∀ base : Heap, (K w.params).In base → base.Ns mainGlobals mg → FnOk l.prog w (K w.params) mg base CX0 11 fa fd ["_law_script"] (sp_law (K w.params) cs0)) :
    PySem.W.WalkO q loose XP YP l.row.toRowW d [] (fun f vs => PySem.call f vs) :=
  L2.walk_ofB (n := 63) (k := 11) (x := "_law_script") (CX := fun _ => CX0) (sp := fun w => sp_law (K w.params) cs0) hn (by decide) hdf ⟨rfl, by decide, by decide⟩ hY F
    (fun _ _ a ns hl hb _ hS => ⟨a, ns, rfl, hS, fun z hz => sm_bits (hb z hz), hl, fun _ => rfl⟩) fun _ _ _ _ _ z => z
end TH
open PySem PySem.W PyProof.Rows
set_option maxRecDepth 100000 in
set_option maxHeartbeats 0 in
theorem PySem.Challenge.cw_twoheaps_k05_refused_holds : PySem.Challenge.rw_twoheaps_k05_refused.Holds := by
  w_on; o_law; k_head; (case hw => w_witness2)
  k_fill
  refine TH.walk_law (l := PySem.Challenge.rw_twoheaps_k05_refused) rfl rfl (fun w h Y => PySem.W.kIn_of Y) ?F
  case F =>
    intro w mg fa h KX G hmg
    refine' TH.all_mk KX G hmg ?g_HeapError ?g_BadBound ?g_BadHeaps ?g_BadTaking ?g_BadNumber ?g__law_with_bound ?g__law_with_heaps ?g__law_with_taking ?g__law_with_number ?a_is_whole ?l_is_whole ?c_is_whole ?k_is_whole ?a__is_there ?l__is_there ?c__is_there ?k__is_there ?a__is_let ?l__is_let ?c__is_let ?k__is_let ?a__law_cell_at ?l__law_cell_at ?c__law_cell_at ?k__law_cell_at ?a__law_kinds ?l__law_kinds ?c__law_kinds ?k__law_kinds ?a_is_pair ?l_is_pair ?c_is_pair ?k_is_pair ?a_is_bound ?l_is_bound ?c_is_bound ?k_is_bound ?a_check_number ?l_check_number ?c_check_number ?k_check_number ?a_are_heaps ?l_are_heaps ?c_are_heaps ?k_are_heaps ?a_check_bound ?l_check_bound ?c_check_bound ?k_check_bound ?a_check_heaps ?l_check_heaps ?c_check_heaps ?k_check_heaps ?a_pair_by ?l_pair_by ?c_pair_by ?k_pair_by ?a_pair_with ?l_pair_with ?c_pair_with ?k_pair_with ?a_can ?l_can ?c_can ?k_can ?a_told ?l_told ?c_told ?k_told ?a__law_with_number ?l__law_with_number ?c__law_with_number ?k__law_with_number ?a_left ?l_left ?c_left ?k_left ?a__law_with_bound ?l__law_with_bound ?c__law_with_bound ?k__law_with_bound ?a__law_with_heaps ?l__law_with_heaps ?c__law_with_heaps ?k__law_with_heaps ?a__law_with_taking ?l__law_with_taking ?c__law_with_taking ?k__law_with_taking ?a__law_told ?l__law_told ?c__law_told ?k__law_told ?a__law_all ?l__law_all ?c__law_all ?k__law_all ?a_law ?l_law ?c_law ?k_law ?z_ValueError ?z_abs ?z_all ?z_bool ?z_int ?z_isinstance ?z_len ?z_range ?z_tuple ?b_HE ?d_HE ?t_HE ?xg ?xt ?x_BB ?kp_BB ?b_BB ?t_BB ?s_BB ?ga_BB ?gg_BB ?hd_BB ?cc_BB ?mo_BB ?v_BB ?k_BB_BB ?k_BB_BH ?k_BB_BT ?k_BB_BN ?x_BH ?kp_BH ?b_BH ?t_BH ?s_BH ?ga_BH ?gg_BH ?hd_BH ?cc_BH ?mo_BH ?v_BH ?k_BH_BB ?k_BH_BH ?k_BH_BT ?k_BH_BN ?x_BT ?kp_BT ?b_BT ?t_BT ?s_BT ?ga_BT ?gg_BT ?hd_BT ?cc_BT ?mo_BT ?v_BT ?k_BT_BB ?k_BT_BH ?k_BT_BT ?k_BT_BN ?x_BN ?kp_BN ?b_BN ?t_BN ?s_BN ?ga_BN ?gg_BN ?hd_BN ?cc_BN ?mo_BN ?v_BN ?k_BN_BB ?k_BN_BH ?k_BN_BT ?k_BN_BN
    (case g_HeapError => k_is)
    (case g_BadBound => k_is)
    (case g_BadHeaps => k_is)
    (case g_BadTaking => k_is)
    (case g_BadNumber => k_is)
    (case g__law_with_bound => k_is)
    (case g__law_with_heaps => k_is)
    (case g__law_with_taking => k_is)
    (case g__law_with_number => k_is)
    (case a_is_whole => k_is)
    (case l_is_whole => k_is)
    (case c_is_whole => k_is)
    (case k_is_whole => k_is)
    (case a__is_there => k_is)
    (case l__is_there => k_is)
    (case c__is_there => k_is)
    (case k__is_there => k_is)
    (case a__is_let => k_is)
    (case l__is_let => k_is)
    (case c__is_let => k_is)
    (case k__is_let => k_is)
    (case a__law_cell_at => k_is)
    (case l__law_cell_at => k_is)
    (case c__law_cell_at => k_is)
    (case k__law_cell_at => k_is)
    (case a__law_kinds => k_is)
    (case l__law_kinds => k_is)
    (case c__law_kinds => k_is)
    (case k__law_kinds => k_is)
    (case a_is_pair => k_is)
    (case l_is_pair => k_is)
    (case c_is_pair => k_is)
    (case k_is_pair => k_is)
    (case a_is_bound => k_is)
    (case l_is_bound => k_is)
    (case c_is_bound => k_is)
    (case k_is_bound => k_is)
    (case a_check_number => k_is)
    (case l_check_number => k_is)
    (case c_check_number => k_is)
    (case k_check_number => k_is)
    (case a_are_heaps => k_is)
    (case l_are_heaps => k_is)
    (case c_are_heaps => k_is)
    (case k_are_heaps => k_is)
    (case a_check_bound => k_is)
    (case l_check_bound => k_is)
    (case c_check_bound => k_is)
    (case k_check_bound => k_is)
    (case a_check_heaps => k_is)
    (case l_check_heaps => k_is)
    (case c_check_heaps => k_is)
    (case k_check_heaps => k_is)
    (case a_pair_by => k_is)
    (case l_pair_by => k_is)
    (case c_pair_by => k_is)
    (case k_pair_by => k_is)
    (case a_pair_with => k_is)
    (case l_pair_with => k_is)
    (case c_pair_with => k_is)
    (case k_pair_with => k_is)
    (case a_can => k_is)
    (case l_can => k_is)
    (case c_can => k_is)
    (case k_can => k_is)
    (case a_told => k_is)
    (case l_told => k_is)
    (case c_told => k_is)
    (case k_told => k_is)
    (case a__law_with_number => k_is)
    (case l__law_with_number => k_is)
    (case c__law_with_number => k_is)
    (case k__law_with_number => k_is)
    (case a_left => k_is)
    (case l_left => k_is)
    (case c_left => k_is)
    (case k_left => k_is)
    (case a__law_with_bound => k_is)
    (case l__law_with_bound => k_is)
    (case c__law_with_bound => k_is)
    (case k__law_with_bound => k_is)
    (case a__law_with_heaps => k_is)
    (case l__law_with_heaps => k_is)
    (case c__law_with_heaps => k_is)
    (case k__law_with_heaps => k_is)
    (case a__law_with_taking => k_is)
    (case l__law_with_taking => k_is)
    (case c__law_with_taking => k_is)
    (case k__law_with_taking => k_is)
    (case a__law_told => k_is)
    (case l__law_told => k_is)
    (case c__law_told => k_is)
    (case k__law_told => k_is)
    (case a__law_all => k_is)
    (case l__law_all => k_is)
    (case c__law_all => k_is)
    (case k__law_all => k_is)
    (case a_law => k_is)
    (case l_law => k_is)
    (case c_law => k_is)
    (case k_law => k_is)
    (case z_ValueError => k_is)
    (case z_abs => k_is)
    (case z_all => k_is)
    (case z_bool => k_is)
    (case z_int => k_is)
    (case z_isinstance => k_is)
    (case z_len => k_is)
    (case z_range => k_is)
    (case z_tuple => k_is)
    (case b_HE => k_is)
    (case d_HE => k_is)
    (case t_HE => k_is)
    (case xg => k_is)
    (case xt => k_is)
    (case x_BB => k_exc)
    (case kp_BB => k_is)
    (case b_BB => k_is)
    (case t_BB => k_is)
    (case s_BB => k_is)
    (case ga_BB => k_is)
    (case gg_BB => k_is)
    (case hd_BB => k_is)
    (case cc_BB => k_is)
    (case mo_BB => k_is)
    (case v_BB => (first | rfl | k_is))
    (case k_BB_BB => (first | rfl | k_is))
    (case k_BB_BH => (first | rfl | k_is))
    (case k_BB_BT => (first | rfl | k_is))
    (case k_BB_BN => (first | rfl | k_is))
    (case x_BH => k_exc)
    (case kp_BH => k_is)
    (case b_BH => k_is)
    (case t_BH => k_is)
    (case s_BH => k_is)
    (case ga_BH => k_is)
    (case gg_BH => k_is)
    (case hd_BH => k_is)
    (case cc_BH => k_is)
    (case mo_BH => k_is)
    (case v_BH => (first | rfl | k_is))
    (case k_BH_BB => (first | rfl | k_is))
    (case k_BH_BH => (first | rfl | k_is))
    (case k_BH_BT => (first | rfl | k_is))
    (case k_BH_BN => (first | rfl | k_is))
    (case x_BT => k_exc)
    (case kp_BT => k_is)
    (case b_BT => k_is)
    (case t_BT => k_is)
    (case s_BT => k_is)
    (case ga_BT => k_is)
    (case gg_BT => k_is)
    (case hd_BT => k_is)
    (case cc_BT => k_is)
    (case mo_BT => k_is)
    (case v_BT => (first | rfl | k_is))
    (case k_BT_BB => (first | rfl | k_is))
    (case k_BT_BH => (first | rfl | k_is))
    (case k_BT_BT => (first | rfl | k_is))
    (case k_BT_BN => (first | rfl | k_is))
    (case x_BN => k_exc)
    (case kp_BN => k_is)
    (case b_BN => k_is)
    (case t_BN => k_is)
    (case s_BN => k_is)
    (case ga_BN => k_is)
    (case gg_BN => k_is)
    (case hd_BN => k_is)
    (case cc_BN => k_is)
    (case mo_BN => k_is)
    (case v_BN => (first | rfl | k_is))
    (case k_BN_BB => (first | rfl | k_is))
    (case k_BN_BH => (first | rfl | k_is))
    (case k_BN_BT => (first | rfl | k_is))
    (case k_BN_BN => (first | rfl | k_is))
#print axioms PySem.Challenge.cw_twoheaps_k05_refused_holds
