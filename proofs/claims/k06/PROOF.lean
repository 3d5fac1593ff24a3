import PyProof.Rows.All
import Wide.All
import OpenK.AllK
import Wide.FinOn
import PySem.Challenge.RW_joinload_k06_high_and_low_together
set_option Elab.async false
namespace K6
open PySem PySem.W PySem.Calls PyProof.Rows
theorem tb_mul (a i j : Nat) : (2 ^ i * a).testBit j = (decide (i ≤ j) && a.testBit (j - i)) := by
  have h := Nat.testBit_two_pow_mul_add a (b := 0) (i := i) (Nat.two_pow_pos i) j
  rw [Nat.add_zero] at h
  rw [h]
  by_cases c : j < i
  · simp [c, Nat.not_le.mpr c]
  · simp [c, Nat.not_lt.mp c]
theorem and_field (W l m : Nat) : W &&& (2 ^ l * (2 ^ m - 1)) = 2 ^ l * (W / 2 ^ l % 2 ^ m) := by
  apply Nat.eq_of_testBit_eq
  intro j
  rw [Nat.testBit_and, tb_mul, tb_mul, Nat.testBit_two_pow_sub_one, Nat.testBit_mod_two_pow, Nat.testBit_div_two_pow]
  by_cases c : l ≤ j
  · have e : j - l + l = j := by omega
    simp [c, e, Bool.and_comm]
  · simp [c]
def rest (W l m : Nat) : Nat := 2 ^ l * (2 ^ m * (W / 2 ^ l / 2 ^ m)) + W % 2 ^ l
theorem rest_eq (W l m : Nat) : W = rest W l m + 2 ^ l * (W / 2 ^ l % 2 ^ m) := by
  have h1 := Nat.div_add_mod W (2 ^ l)
  have h2 := Nat.div_add_mod (W / 2 ^ l) (2 ^ m)
  unfold rest
  have h3 : 2 ^ l * (2 ^ m * (W / 2 ^ l / 2 ^ m)) + 2 ^ l * (W / 2 ^ l % 2 ^ m) = 2 ^ l * (W / 2 ^ l) := by
    rw [← Nat.mul_add, h2]
  omega
theorem rest_tb (W l m j : Nat) : (rest W l m).testBit j = if j < l then W.testBit j else (decide (l + m ≤ j) && W.testBit j) := by
  unfold rest
  rw [Nat.testBit_two_pow_mul_add _ (Nat.mod_lt _ (Nat.two_pow_pos l))]
  by_cases c : j < l
  · simp [c, Nat.testBit_mod_two_pow]
  · simp only [c, if_false]
    rw [tb_mul, Nat.testBit_div_two_pow, Nat.testBit_div_two_pow]
    by_cases d : l + m ≤ j
    · have e : j - l + l = j := by omega
      have d' : m ≤ j - l := by omega
      simp [d, d', e]
    · have d' : ¬ m ≤ j - l := by omega
      simp [d, d']
theorem rest_and (W l m y : Nat) (hy : y < 2 ^ m) : rest W l m &&& (2 ^ l * y) = 0 := by
  apply Nat.eq_of_testBit_eq
  intro j
  rw [Nat.testBit_and, rest_tb, tb_mul, Nat.zero_testBit]
  by_cases c : j < l
  · have : ¬ l ≤ j := by omega
    simp [this]
  · by_cases d : l + m ≤ j
    · have : y.testBit (j - l) = false := Nat.testBit_lt_two_pow (Nat.lt_of_lt_of_le hy (Nat.pow_le_pow_right (by decide) (by omega)))
      simp [this]
    · simp [c, d]
def put (W l m y : Nat) : Nat := rest W l m + 2 ^ l * y
theorem put_or (W l m y : Nat) (hy : y < 2 ^ m) : rest W l m ||| (2 ^ l * y) = put W l m y := by
  apply Nat.eq_of_testBit_eq
  intro j
  have e : put W l m y = 2 ^ l * (2 ^ m * (W / 2 ^ l / 2 ^ m) + y) + W % 2 ^ l := by
    unfold put rest; rw [Nat.mul_add]; omega
  rw [e, Nat.testBit_or, rest_tb, tb_mul, Nat.testBit_two_pow_mul_add _ (Nat.mod_lt _ (Nat.two_pow_pos l)), Nat.testBit_two_pow_mul_add _ hy]
  by_cases c : j < l
  · have : ¬ l ≤ j := by omega
    simp [c, this, Nat.testBit_mod_two_pow]
  · have c' : l ≤ j := by omega
    by_cases d : l + m ≤ j
    · have z : y.testBit (j - l) = false := Nat.testBit_lt_two_pow (Nat.lt_of_lt_of_le hy (Nat.pow_le_pow_right (by decide) (by omega)))
      have d' : ¬ (j - l < m) := by omega
      have e : j - l - m + m + l = j := by omega
      rw [Nat.testBit_div_two_pow, Nat.testBit_div_two_pow]
      simp [c, c', d, d', z, e]
    · have d' : j - l < m := by omega
      simp [c, c', d, d']
theorem put_tb (W l m y j : Nat) (hy : y < 2 ^ m) : (put W l m y).testBit j = if l ≤ j ∧ j < l + m then y.testBit (j - l) else W.testBit j := by
  rw [← put_or W l m y hy, Nat.testBit_or, rest_tb, tb_mul]
  by_cases c : j < l
  · have : ¬ l ≤ j := by omega
    simp [c, this]
  · have c' : l ≤ j := by omega
    by_cases d : l + m ≤ j
    · have z : y.testBit (j - l) = false := Nat.testBit_lt_two_pow (Nat.lt_of_lt_of_le hy (Nat.pow_le_pow_right (by decide) (by omega)))
      have d' : ¬ (j < l + m) := by omega
      simp [c, c', d, d', z]
    · have d' : j < l + m := by omega
      simp [c, c', d, d']
theorem put_lt (W l m y : Nat) (hy : y < 2 ^ m) (hw : W < 2 ^ 32) (h : l + m ≤ 32) : put W l m y < 2 ^ 32 := by
  apply Nat.lt_pow_two_of_testBit
  intro j hj
  rw [put_tb W l m y j hy]
  have : ¬ (l ≤ j ∧ j < l + m) := by omega
  simp only [this, if_false]
  exact Nat.testBit_lt_two_pow (Nat.lt_of_lt_of_le hw (Nat.pow_le_pow_right (by decide) hj))
theorem put_field (W l m y : Nat) (hy : y < 2 ^ m) : put W l m y / 2 ^ l % 2 ^ m = y := by
  apply Nat.eq_of_testBit_eq
  intro j
  rw [Nat.testBit_mod_two_pow, Nat.testBit_div_two_pow, put_tb W l m y _ hy]
  by_cases c : j < m
  · have e : j + l - l = j := by omega
    have e' : l ≤ j + l ∧ j + l < l + m := by omega
    simp [c, e, e']
  · have z : y.testBit j = false := Nat.testBit_lt_two_pow (Nat.lt_of_lt_of_le hy (Nat.pow_le_pow_right (by decide) (by omega)))
    simp [c, z]

-- over Int
def pw (m : Int) : Int := 2 ^ m.toNat
theorem pow_pos (k : Nat) : (0 : Int) < 2 ^ k := Int.pow_pos (by decide)
theorem pw_pos (m : Int) : 0 < pw m := pow_pos _
theorem cast_pow (k : Nat) : ((2 ^ k : Nat) : Int) = (2 : Int) ^ k := by
  induction k with
  | zero => rfl
  | succ k ih => rw [Nat.pow_succ, Int.pow_succ, Int.natCast_mul, ih]; rfl
theorem pw_nat (m : Int) : pw m = ((2 ^ m.toNat : Nat) : Int) := (cast_pow _).symm
def fieldF (w l m : Int) : Int := (w.fdiv (pw l)).fmod (pw m)
def putF (w l m n : Int) : Int := (put w.toNat l.toNat m.toNat (n.fmod (pw m)).toNat : Nat)
theorem fmod_toNat_lt (n m : Int) : (n.fmod (pw m)).toNat < 2 ^ m.toNat := by
  have a := Int.fmod_nonneg_of_pos n (pw_pos m)
  have b := Int.fmod_lt_of_pos n (pw_pos m)
  have c := pw_nat m
  omega
-- others = w & ~((2^m-1)*2^l), then | (n mod 2^m) * 2^l
theorem or_put {w l m n : Int} (hw : 0 ≤ w) :
    Builtin.bitOr (Builtin.bitAnd w (Builtin.bitNot ((pw m - 1) * pw l))) (n.fmod (pw m) * pw l) = putF w l m n := by
  have a := Int.fmod_nonneg_of_pos n (pw_pos m)
  have hy := fmod_toNat_lt n m
  have pm := pw_pos m
  have pl := pw_pos l
  have e1 : Builtin.bitAnd w ((pw m - 1) * pw l) = ((2 ^ l.toNat * (w.toNat / 2 ^ l.toNat % 2 ^ m.toNat) : Nat) : Int) := by
    have z : 0 ≤ (pw m - 1) * pw l := Int.mul_nonneg (by omega) (by omega)
    have t : ((pw m - 1) * pw l).toNat = 2 ^ l.toNat * (2 ^ m.toNat - 1) := by
      have c1 := pw_nat m
      have c2 := pw_nat l
      have c3 : pw m - 1 = ((2 ^ m.toNat - 1 : Nat) : Int) := by
        have := Nat.two_pow_pos m.toNat
        omega
      rw [c3, c2, ← Int.natCast_mul, Int.toNat_natCast, Nat.mul_comm]
    rw [bitAnd_pp hw z, t, and_field]
  have e2 : Builtin.bitAnd w (Builtin.bitNot ((pw m - 1) * pw l)) = (rest w.toNat l.toNat m.toNat : Nat) := by
    rw [bitAnd_not, e1]
    have := rest_eq w.toNat l.toNat m.toNat
    omega
  have e3 : n.fmod (pw m) * pw l = ((2 ^ l.toNat * (n.fmod (pw m)).toNat : Nat) : Int) := by
    rw [Int.natCast_mul, ← pw_nat l, Int.toNat_of_nonneg a, Int.mul_comm]
  have e4 : Builtin.bitAnd ((rest w.toNat l.toNat m.toNat : Nat) : Int) ((2 ^ l.toNat * (n.fmod (pw m)).toNat : Nat) : Int) = 0 := by
    rw [bitAnd_pp (by omega) (by omega), Int.toNat_natCast, Int.toNat_natCast, rest_and _ _ _ _ hy]
    rfl
  rw [e2, e3, bitOr_and, e4, Int.sub_zero]
  unfold putF put
  rw [Int.natCast_add]
theorem putF_range {w l m n : Int} (hw : 0 ≤ w) (hw1 : w ≤ 4294967295) (hl : 0 ≤ l) (hm : 0 ≤ m) (hlm : l + m ≤ 32) : 0 ≤ putF w l m n ∧ putF w l m n ≤ 4294967295 := by
  have h := put_lt w.toNat l.toNat m.toNat (n.fmod (pw m)).toNat (fmod_toNat_lt n m) (by omega) (by omega)
  unfold putF
  omega
theorem fieldF_put {w l m n : Int} : fieldF (putF w l m n) l m = n.fmod (pw m) := by
  have h := put_field w.toNat l.toNat m.toNat (n.fmod (pw m)).toNat (fmod_toNat_lt n m)
  have a := Int.fmod_nonneg_of_pos n (pw_pos m)
  unfold fieldF putF
  rw [Int.fdiv_eq_ediv_of_nonneg _ (Int.le_of_lt (pw_pos l)), Int.fmod_eq_emod_of_nonneg _ (Int.le_of_lt (pw_pos m)), pw_nat l, pw_nat m, ← Int.natCast_ediv, ← Int.natCast_emod, ← pw_nat m, h, Int.toNat_of_nonneg a]
-- a bit, as the law reads it
theorem bit_nat (x k : Nat) : x / 2 ^ k % 2 = (x.testBit k).toNat := by
  rw [Nat.testBit_eq_decide_div_mod_eq]
  have : x / 2 ^ k % 2 = 0 ∨ x / 2 ^ k % 2 = 1 := by omega
  rcases this with h | h <;> simp [h]
def bitI (x : Int) (k : Nat) : Int := (x.fdiv (2 ^ k)).fmod 2
theorem bitI_eq (x : Int) (k : Nat) : bitI x k = x / 2 ^ k % 2 := by
  unfold bitI
  rw [Int.fdiv_eq_ediv_of_nonneg _ (Int.le_of_lt (pow_pos k)), Int.fmod_eq_emod_of_nonneg _ (by decide)]
theorem bitI_nat (x k : Nat) : bitI (x : Int) k = ((x.testBit k).toNat : Nat) := by
  rw [bitI_eq, ← bit_nat, ← cast_pow]
  rfl
theorem putF_bit {w l m n : Int} {k : Nat} (hw : 0 ≤ w) (hl : 0 ≤ l) (hm : 0 ≤ m) : bitI (putF w l m n) k = if l ≤ k ∧ k < l + m then bitI n (k - l.toNat) else bitI w k := by
  have h := put_tb w.toNat l.toNat m.toNat (n.fmod (pw m)).toNat k (fmod_toNat_lt n m)
  unfold putF
  rw [bitI_nat, h]
  by_cases c : l ≤ k ∧ k < l + m
  · have c' : l.toNat ≤ k ∧ k < l.toNat + m.toNat := by omega
    rw [if_pos c, if_pos c', ← bitI_nat]
    have a := Int.fmod_nonneg_of_pos n (pw_pos m)
    rw [Int.toNat_of_nonneg a, bitI_eq, bitI_eq, Int.fmod_eq_emod_of_nonneg _ (Int.le_of_lt (pw_pos m))]
    unfold pw
    have e : m.toNat = (k - l.toNat) + (m.toNat - (k - l.toNat) - 1) + 1 := by omega
    generalize hk : k - l.toNat = i at *
    generalize hd : m.toNat - i - 1 = d at *
    rw [e]
    have q := Int.mul_ediv_add_emod n (2 ^ (i + d + 1))
    have s : (2 : Int) ^ (i + d + 1) = 2 ^ i * (2 * 2 ^ d) := by rw [Int.pow_succ, Int.pow_add, Int.mul_assoc, Int.mul_comm (2 ^ d) 2]
    have g : n / 2 ^ i = 2 * (2 ^ d * (n / 2 ^ (i + d + 1))) + (n % 2 ^ (i + d + 1)) / 2 ^ i := by
      have p := pow_pos i
      rw [show n / 2 ^ i = (2 ^ (i + d + 1) * (n / 2 ^ (i + d + 1)) + n % 2 ^ (i + d + 1)) / 2 ^ i by rw [q]]
      rw [show (2 : Int) ^ (i + d + 1) * (n / 2 ^ (i + d + 1)) = 2 ^ i * (2 * (2 ^ d * (n / 2 ^ (i + d + 1)))) by rw [s]; simp only [Int.mul_assoc]]
      rw [Int.mul_add_ediv_left _ _ (by omega)]
    omega
  · have c' : ¬ (l.toNat ≤ k ∧ k < l.toNat + m.toNat) := by omega
    rw [if_neg c, if_neg c', ← bitI_nat, Int.toNat_of_nonneg hw]

def onesF (m : Int) : Int := pw m - 1
theorem pw_mono {a b : Nat} (h : a ≤ b) : (2 : Int) ^ a ≤ 2 ^ b := by
  have := Nat.pow_le_pow_right (show 0 < 2 by decide) h
  rw [← cast_pow, ← cast_pow]; omega
theorem ones_fact0 (m : Int) (h : m ≤ 32) : 0 ≤ onesF m ∧ onesF m ≤ 4294967295 := by
  have a := pw_pos m
  have b : pw m ≤ 4294967296 := by
    have := pw_mono (a := m.toNat) (b := 32) (by omega)
    unfold pw
    have e : (2 : Int) ^ 32 = 4294967296 := by decide
    omega
  unfold onesF
  omega
def movedF (n up : Int) : Int := if up < 0 then n.fdiv (pw (-up)) else n * pw up
theorem moved_down {n up : Int} (h : up < 0) : n.fdiv (2 ^ (-up).toNat) = movedF n up := by
  unfold movedF; rw [if_pos h]; rfl
theorem moved_up {n up : Int} (h : ¬ up < 0) : n * 2 ^ up.toNat = movedF n up := by
  unfold movedF; rw [if_neg h]; rfl
theorem ones_eq {m k : Int} (h : k = m ∨ (m ≤ 0 ∧ k = 0)) : (1 : Int) * 2 ^ k.toNat - 1 = onesF m := by
  have e : k.toNat = m.toNat := by omega
  rw [e, Int.one_mul]; rfl
theorem field_eq {w l m r : Int} (hr : r = Builtin.bitAnd (movedF w (-l)) (onesF m)) (h : 0 ≤ l) : r = fieldF w l m := by
  have e : movedF w (-l) = w.fdiv (pw l) := by
    unfold movedF
    by_cases c : l = 0
    · subst c
      rw [if_neg (by decide)]
      show w * 1 = w.fdiv 1
      rw [Int.fdiv_one, Int.mul_one]
    · rw [if_pos (by omega), Int.neg_neg]
  rw [hr, e]
  show Builtin.bitAnd (w.fdiv (pw l)) (2 ^ m.toNat - 1) = _
  rw [kbt_maskF]
  rfl
theorem with_eq {w l m n r : Int} (hr : r = Builtin.bitAnd n (onesF m)) (hw : 0 ≤ w) (hw1 : w ≤ 4294967295) (hl : 0 ≤ l) (hm : 1 ≤ m) (hlm : l + m ≤ 32) :
    (Builtin.bitOr (Builtin.bitAnd w (Builtin.bitNot (movedF (onesF m) l))) (movedF r l)).fmod 4294967296 = putF w l m n := by
  have e1 : movedF (onesF m) l = (pw m - 1) * pw l := by
    unfold movedF; rw [if_neg (by omega)]; rfl
  have e2 : r = n.fmod (pw m) := by
    rw [hr]
    show Builtin.bitAnd n (2 ^ m.toNat - 1) = _
    rw [kbt_maskF]; rfl
  have e3 : movedF r l = n.fmod (pw m) * pw l := by
    unfold movedF; rw [if_neg (by omega), e2]
  rw [e1, e3, or_put hw]
  have := putF_range (n := n) hw hw1 hl (by omega) hlm
  rw [Int.fmod_eq_emod_of_nonneg _ (by decide)]
  omega
theorem ones_fact (m : Int) : 32 < m ∨ (0 ≤ onesF m ∧ onesF m ≤ 4294967295) := by
  by_cases h : m ≤ 32
  · exact Or.inr (ones_fact0 m h)
  · exact Or.inl (by omega)
theorem put_fact (w l m n : Int) : (w < 0 ∨ 4294967295 < w ∨ l < 0 ∨ m < 0 ∨ 32 < l + m) ∨ (0 ≤ putF w l m n ∧ putF w l m n ≤ 4294967295) := by
  by_cases h : w < 0 ∨ 4294967295 < w ∨ l < 0 ∨ m < 0 ∨ 32 < l + m
  · exact Or.inl h
  · exact Or.inr (putF_range (by omega) (by omega) (by omega) (by omega) (by omega))
def wrapF (n : Int) : Int := n.fmod 4294967296
theorem wrap_out {n r : Int} (d : r = n.fmod 4294967296) : r = wrapF n := d
theorem wrap_fact (n : Int) : (4294967296 * n.fdiv 4294967296 + wrapF n = n) ∧ 0 ≤ wrapF n ∧ wrapF n < 4294967296 := by
  have h : n = 4294967296 * n.fdiv 4294967296 + n.fmod 4294967296 := by
    rw [Int.fmod_def]
    omega
  exact ⟨h.symm, Int.fmod_nonneg_of_pos n (by decide), Int.fmod_lt_of_pos n (by decide)⟩
theorem pw_half {m : Int} (h : 1 ≤ m) : pw m = 2 * pw (m - 1) := by
  unfold pw
  have e : m.toNat = (m - 1).toNat + 1 := by omega
  rw [e, Int.pow_succ, Int.mul_comm]
def sg (n m : Int) : Int := (n + pw (m - 1)).fmod (pw m) - pw (m - 1)
theorem signed_eq {n m : Int} (h : 1 ≤ m) : Builtin.bitAnd (n + movedF 1 (m - 1)) (onesF m) - movedF 1 (m - 1) = sg n m := by
  have e : movedF 1 (m - 1) = pw (m - 1) := by
    unfold movedF; rw [if_neg (by omega), Int.one_mul]
  rw [e]
  show Builtin.bitAnd (n + pw (m - 1)) (2 ^ m.toNat - 1) - pw (m - 1) = _
  rw [kbt_maskF]
  rfl
theorem signed_eq2 {n m r : Int} (hr : r = Builtin.bitAnd (n + movedF 1 (m - 1)) (onesF m)) (h : 1 ≤ m) : r - movedF 1 (m - 1) = sg n m := by
  subst hr; exact signed_eq h
theorem pwl (k : Nat) (v : Int) (h : (2 : Int) ^ k = v) : pw (k : Int) = v := by
  unfold pw; rw [Int.toNat_natCast]; exact h
theorem field_at (w : Int) (l m : Nat) (a b : Int) (ha : (2 : Int) ^ l = a) (hb : (2 : Int) ^ m = b) : fieldF w l m = (w / a) % b := by
  have pa := pow_pos l
  have pb := pow_pos m
  unfold fieldF
  rw [pwl l a ha, pwl m b hb, Int.fdiv_eq_ediv_of_nonneg _ (by omega), Int.fmod_eq_emod_of_nonneg _ (by omega)]
theorem sg_at (n : Int) (m : Nat) (a b : Int) (hb : (2 : Int) ^ (m + 1) = b) (ha : (2 : Int) ^ m = a) : sg n ((m + 1 : Nat) : Int) = (n + a) % b - a := by
  have pb := pow_pos (m + 1)
  unfold sg
  have e : (((m + 1 : Nat) : Int) - 1) = (m : Int) := by omega
  rw [e, pwl m a ha, pwl (m + 1) b hb, Int.fmod_eq_emod_of_nonneg _ (by omega)]
theorem put_at (w n : Int) (l m : Nat) (a b : Int) (ha : (2 : Int) ^ l = a) (hb : (2 : Int) ^ m = b) (hw : 0 ≤ w) : putF w l m n = a * (b * (w / a / b)) + w % a + a * (n % b) := by
  have pa := pow_pos l
  have pb := pow_pos m
  unfold putF put rest
  rw [pwl m b hb, Int.toNat_natCast, Int.toNat_natCast]
  have z := Int.emod_nonneg n (show b ≠ 0 by omega)
  rw [Int.fmod_eq_emod_of_nonneg _ (by omega)]
  simp only [Int.natCast_add, Int.natCast_mul, Int.natCast_ediv, Int.natCast_emod, cast_pow, ha, hb]
  rw [Int.toNat_of_nonneg hw, Int.toNat_of_nonneg z]
theorem field_fact (w l m : Int) : ((l ≠ 0 ∨ m ≠ 16) ∨ fieldF w l m = w % 65536) := by
    by_cases h : l = 0 ∧ m = 16
    · right
      obtain ⟨rfl, rfl⟩ := h
      have := field_at w 0 16 1 65536 rfl rfl
      rw [Int.ediv_one] at this
      exact this
    · left; omega
theorem sg_fact (n m : Int) : m ≠ 16 ∨ sg n m = (n + 32768) % 65536 - 32768 := by
  by_cases h : m = 16
  · right
    subst h
    exact sg_at n 15 32768 65536 rfl rfl
  · left; omega
theorem put_at0 (w l m n : Int) : (w < 0 ∨ 4294967295 < w ∨ l ≠ 0 ∨ m ≠ 16) ∨ (putF w l m n = 65536 * (w / 65536) + n % 65536) := by
  by_cases h : w < 0 ∨ 4294967295 < w ∨ l ≠ 0 ∨ m ≠ 16
  · exact Or.inl h
  · right
    have h0 : l = 0 := by omega
    have h1 : m = 16 := by omega
    subst h0 h1
    have := put_at w n 0 16 1 65536 rfl rfl (by omega)
    rw [Int.ediv_one, Int.emod_one, Int.one_mul, Int.one_mul, Int.add_zero] at this
    exact this
theorem put_fact3 (w l m n : Int) : ((w < 0 ∨ 4294967295 < w ∨ l < 0 ∨ m < 0 ∨ 32 < l + m) ∨ (0 ≤ putF w l m n ∧ putF w l m n ≤ 4294967295)) ∧ ((w < 0 ∨ 4294967295 < w ∨ l ≠ 0 ∨ m ≠ 16) ∨ (putF w l m n = 65536 * (w / 65536) + n % 65536)) := ⟨put_fact w l m n, put_at0 w l m n⟩
@[irreducible] def movedX (n up : Int) : Int := movedF n up
@[irreducible] def onesX (m : Int) : Int := onesF m
@[irreducible] def fieldX (w l m : Int) : Int := fieldF w l m
@[irreducible] def putX (w l m n : Int) : Int := putF w l m n
@[irreducible] def sgX (n m : Int) : Int := sg n m
@[irreducible] def wrapX (n : Int) : Int := wrapF n
theorem moved_downX {n up : Int} (h : up < 0) : n.fdiv (2 ^ (-up).toNat) = movedX n up := by unfold movedX; exact moved_down h
theorem moved_upX {n up : Int} (h : ¬ up < 0) : n * 2 ^ up.toNat = movedX n up := by unfold movedX; exact moved_up h
theorem ones_eqX {m k : Int} (h : k = m ∨ (m ≤ 0 ∧ k = 0)) : (1 : Int) * 2 ^ k.toNat - 1 = onesX m := by unfold onesX; exact ones_eq h
theorem field_eqX {w l m r : Int} (hr : r = Builtin.bitAnd (movedX w (-l)) (onesX m)) (h : 0 ≤ l) : r = fieldX w l m := by
  unfold movedX onesX at hr; unfold fieldX; exact field_eq hr h
theorem with_eqX {w l m n r : Int} (hr : r = Builtin.bitAnd n (onesX m)) (hw : 0 ≤ w) (hw1 : w ≤ 4294967295) (hl : 0 ≤ l) (hm : 1 ≤ m) (hlm : l + m ≤ 32) :
    (Builtin.bitOr (Builtin.bitAnd w (Builtin.bitNot (movedX (onesX m) l))) (movedX r l)).fmod 4294967296 = putX w l m n := by
  unfold onesX at hr; unfold movedX onesX putX; exact with_eq hr hw hw1 hl hm hlm
theorem with_eqY {w l m n r x : Int} (hx : x = (Builtin.bitOr (Builtin.bitAnd w (Builtin.bitNot (movedX (onesX m) l))) (movedX r l)).fmod 4294967296) (hr : r = Builtin.bitAnd n (onesX m)) (hw : 0 ≤ w) (hw1 : w ≤ 4294967295) (hl : 0 ≤ l) (hm : 1 ≤ m) (hlm : l + m ≤ 32) : x = putX w l m n := hx.trans (with_eqX hr hw hw1 hl hm hlm)
theorem with_eqZ {w l m n r x : Int} (hx : x = Builtin.bitOr (Builtin.bitAnd w (Builtin.bitNot (movedX (onesX m) l))) (movedX r l)) (hr : r = Builtin.bitAnd n (onesX m)) (hw : 0 ≤ w) (hw1 : w ≤ 4294967295) (hl : 0 ≤ l) (hm : 1 ≤ m) (hlm : l + m ≤ 32) : wrapX x = putX w l m n := by
  subst hx; unfold wrapX; exact with_eqX hr hw hw1 hl hm hlm
theorem with_eqW {w l m n r : Int} (hr : r = Builtin.bitAnd n (onesX m)) (hw : 0 ≤ w) (hw1 : w ≤ 4294967295) (hl : 0 ≤ l) (hm : 1 ≤ m) (hlm : l + m ≤ 32) : wrapX (Builtin.bitOr (Builtin.bitAnd w (Builtin.bitNot (movedX (onesX m) l))) (movedX r l)) = putX w l m n := by
  unfold wrapX; exact with_eqX hr hw hw1 hl hm hlm
theorem signed_eqX {n m r : Int} (hr : r = Builtin.bitAnd (n + movedX 1 (m - 1)) (onesX m)) (h : 1 ≤ m) : r - movedX 1 (m - 1) = sgX n m := by
  unfold movedX onesX at hr; unfold movedX sgX; exact signed_eq2 hr h
theorem wrap_outX {n r : Int} (d : r = n.fmod 4294967296) : r = wrapX n := by unfold wrapX; exact d
theorem ones_factX (m : Int) : 32 < m ∨ (0 ≤ onesX m ∧ onesX m ≤ 4294967295) := by unfold onesX; exact ones_fact m
theorem field_factX (w l m : Int) : ((l ≠ 0 ∨ m ≠ 16) ∨ fieldX w l m = w % 65536) := by unfold fieldX; exact field_fact w l m
theorem sg_factX (n m : Int) : m ≠ 16 ∨ sgX n m = (n + 32768) % 65536 - 32768 := by unfold sgX; exact sg_fact n m
theorem put_factX (w l m n : Int) : ((w < 0 ∨ 4294967295 < w ∨ l < 0 ∨ m < 0 ∨ 32 < l + m) ∨ (0 ≤ putX w l m n ∧ putX w l m n ≤ 4294967295)) ∧ ((w < 0 ∨ 4294967295 < w ∨ l ≠ 0 ∨ m ≠ 16) ∨ (putX w l m n = 65536 * (w / 65536) + n % 65536)) := by unfold putX; exact put_fact3 w l m n
@[irreducible] def nF (w : Int) : Int := w % 65536
@[irreducible] def sF (w : Int) : Int := (w % 65536 + 32768) % 65536 - 32768
theorem n_fact (w : Int) : nF w = w % 65536 := by unfold nF; rfl
theorem s_fact (w : Int) : sF w = (w % 65536 + 32768) % 65536 - 32768 := by unfold sF; rfl
@[irreducible] def placeBy (c : Int) : Int := if c.fmod 4 = 0 then (c.fdiv 4).fmod 2001 - 1000 else if c.fmod 4 = 3 then (c.fdiv 4 * 982451653).fmod (2 * 1000000000000000000000000000000000000000000000000000000000000 - 1) - (1000000000000000000000000000000000000000000000000000000000000 - 1) else ((c * 48271).fmod 2000003 - 1000001) * 32768 + (c.fdiv 4).fmod 5 - 2
theorem pl_a {c q r a : Int} (d1 : r = c.fmod 4) (d2 : q = c.fdiv 4) (d3 : a = q.fmod 2001) (h : r = 0) : a - 1000 = placeBy c := by
  subst d1 d2 d3; unfold placeBy; rw [if_pos h]
theorem pl_b {c q r a : Int} (d1 : r = c.fmod 4) (d2 : q = c.fdiv 4) (d3 : a = (q * 982451653).fmod (2 * 1000000000000000000000000000000000000000000000000000000000000 - 1)) (h : r = 3) : a - (1000000000000000000000000000000000000000000000000000000000000 - 1) = placeBy c := by
  subst d1 d2 d3; unfold placeBy; rw [if_neg (by omega), if_pos h]
theorem pl_c {c q r a b : Int} (d1 : r = c.fmod 4) (d2 : q = c.fdiv 4) (d3 : a = (c * 48271).fmod 2000003) (d4 : b = q.fmod 5) (h0 : ¬ r = 0) (h1 : ¬ r = 3) : (a - 1000001) * 32768 + b - 2 = placeBy c := by
  subst d1 d2 d3 d4; unfold placeBy; rw [if_neg h0, if_neg h1]
section
variable {prog : Program} {w : World} {A : Around} {E : Value → Shared → Prop} {s : Shared} {x y : Int} {t u : Tok} {Q : Value → Shared → Prop}
theorem item_both {value slice : PySem.Expr} {l : Addr} {vs : List Value} {ns : List Int} {k : Int} (hl : s.heap.IsList l vs.toArray) (hi : IntsAre vs ns) (h1 : -(ns.length : Int) ≤ k) (h2 : k < (ns.length : Int)) (hf : -(2 ^ 63) ≤ k) (hf' : k < 2 ^ 63) (h : ∀ n t, Q (.int n t) s)
    (hs : subscripted slice false (.ref l) (.int k u) = operate [.ref l, .int k u] (getItem (.ref l) (.int k u)) := by with_unfolding_all rfl) :
    wpAny (model prog w) A (subscriptTail value slice (.ref l) (.int k u)) Q E s := by
  by_cases c : k < 0
  · exact item_list_ints_negR hl hi c h1 hf (fun t => h _ t) hs
  · exact item_list_intsR hl hi (by omega) h2 hf' (fun t => h _ t) hs
theorem pw60 : (10 : Int) ^ (60 : Int).toNat = 1000000000000000000000000000000000000000000000000000000000000 := by
  show (10 : Int) ^ 60 = _
  rfl
theorem step_pow60 (h : Q (.int 1000000000000000000000000000000000000000000000000000000000000 s.toks) { s with toks := s.toks + 1 }) :
    wpAny (model prog w) A (binaryOp .Pow (.int 10 t) (.int 60 u)) Q E s := by
  refine PyProof.Rows.pow_int_small (by decide) (by decide) (by decide) ?_
  rw [pw60]
  exact h
theorem quot (x y : Int) : x = y * Int.fdiv x y + Int.fmod x y := by
  rw [Int.fmod_def]
  omega
theorem step_div (hy : 0 < y) (hs : y ≤ 100000) (h : ∀ q r, q = x.fdiv y → x = y * q + r → 0 ≤ r → r < y → Q (.int q s.toks) { s with toks := s.toks + 1 }) :
    wpAny (model prog w) A (binaryOp .FloorDiv (.int x t) (.int y u)) Q E s :=
  PyProof.Rows.floordiv_int (by omega) (h _ _ rfl (quot x y) (Int.fmod_nonneg_of_pos x hy) (Int.fmod_lt_of_pos x hy)) (Or.inl (PyProof.noPylong_small (by omega)))
theorem step_mod (hy : 0 < y) (h : ∀ k r, r = x.fmod y → x = y * k + r → 0 ≤ r → r < y → Q (.int r s.toks) { s with toks := s.toks + 1 }) :
    wpAny (model prog w) A (binaryOp .Mod (.int x t) (.int y u)) Q E s :=
  PyProof.Rows.mod_int (by omega) (h _ _ rfl (quot x y) (Int.fmod_nonneg_of_pos x hy) (Int.fmod_lt_of_pos x hy))
theorem step_eq (e : x = y) (h : Q (.bool true) s) : wpAny (model prog w) A (compareOp .Eq (.int x t) (.int y u)) Q E s := by
  refine PyProof.Rows.eq_int ?_
  have d : (x == y) = true := beq_iff_eq.mpr e
  rw [d]
  exact h
theorem step_ne (e : x = y) (h : Q (.bool false) s) : wpAny (model prog w) A (compareOp .NotEq (.int x t) (.int y u)) Q E s := by
  refine PyProof.Rows.ne_int ?_
  have d : (x != y) = false := by rw [e]; exact bne_self_eq_false' (a := y)
  rw [d]
  exact h
theorem step_and (hy : 0 ≤ y) (h : ∀ r, r = Builtin.bitAnd x y → 0 ≤ r → r ≤ y → Q (.int r s.toks) { s with toks := s.toks + 1 }) : wpAny (model prog w) A (binaryOp .BitAnd (.int x t) (.int y u)) Q E s :=
  PyProof.Rows.and_int (h _ rfl (bitAnd_range x hy).1 (bitAnd_range x hy).2)
end
end K6
open PySem PySem.W PyProof.Rows
local macro_rules | `(tactic| walk_at "binaryOp Pow int int") => `(tactic| (k_here; (with_reducible show wpAny _ _ (binaryOp Operator.Pow (Value.int 10 _) (Value.int 60 _)) _ _ _); k_dflt (refine K6.step_pow60 ?_)))
local macro_rules | `(tactic| walk_at "eval Call") => `(tactic| (k_here; (with_unfolding_all refine Call_ ?_)))
local macro_rules | `(tactic| walk_at "exec For Name BinOp cons nil") => `(tactic| (k_here; (rename Fr _ _ _ _ => lF'); (with_unfolding_all refine' For_invVF lF' ?k1 ?k2 ?_; (case k1 => exact rfl); (case k2 => exact rfl); k_whole)))
local macro_rules | `(tactic| walk_at "binaryOp FloorDiv int int") => `(tactic| (k_here; (with_reducible refine' K6.step_div ?k1 ?k2 ?_); (case k1 => first | decide | k_dflt omega); (case k2 => first | decide | k_dflt omega); intro q' r' d' e' hr0 hr1))
local macro_rules | `(tactic| walk_at "binaryOp Mod int int") => `(tactic| (k_here; (with_reducible refine' K6.step_mod ?k1 ?_); (case k1 => first | decide | k_dflt omega); intro k' r' d' e' hr0 hr1))
local macro_rules | `(tactic| walk_at "binaryOp BitAnd int int") => `(tactic| (k_here; (with_reducible refine' K6.step_and ?k1 ?_); (case k1 => first | decide | k_dflt omega); intro r' e' hr0 hr1))
local macro_rules | `(tactic| walk_at "subscriptTail Name BinOp ref int") => `(tactic| (k_here; (with_reducible show wpAny _ _ (subscriptTail _ _ (Value.ref _) (Value.int _ _)) _ _ _); (with_unfolding_all refine' K6.item_both ?k1 ?k2 ?k3 ?k4 ?k5 ?k6 ?_ ?k8; (case k1 => is_list); (case k2 => l_ints); (case k3 => l_idx); (case k4 => l_idx); (case k5 => l_idx); (case k6 => l_idx); (case k8 => with_unfolding_all rfl); k_whole); intro n9 t9))
set_option maxRecDepth 100000 in
set_option maxHeartbeats 0 in
theorem PySem.Challenge.cw_joinload_k06_high_and_low_together_holds : PySem.Challenge.rw_joinload_k06_high_and_low_together.Holds := by
  k_with "call ref" => k_call_rec "moved" K6.movedX (fun (n up : Int) => 0 ≤ n ∧ n ≤ 4294967296 ∧ up ≤ 100) (fun (_ _ : Int) => 1)
  k_with "call ref" => k_call_rec "ones" K6.onesX (fun (m : Int) => m ≤ 100) (fun (_ : Int) => 1)
  k_with "call ref" => k_call_rec "field" K6.fieldX (fun (w l m : Int) => 0 ≤ w ∧ w ≤ 4294967295 ∧ 0 ≤ l ∧ l ≤ 31 ∧ 1 ≤ m ∧ m ≤ 32) (fun (_ _ _ : Int) => 3)
  k_with "call ref" => k_call_rec "with_field" K6.putX (fun (w l m _ : Int) => 0 ≤ w ∧ w ≤ 4294967295 ∧ 0 ≤ l ∧ l ≤ 31 ∧ 1 ≤ m ∧ l + m ≤ 32) (fun (_ _ _ _ : Int) => 3)
  k_with "call ref" => k_call_rec "signed" K6.sgX (fun (_ m : Int) => 1 ≤ m ∧ m ≤ 32) (fun (_ _ : Int) => 3)
  k_with "call ref" => k_call_rec "wrapped" K6.wrapX (fun (_ : Int) => True) (fun (_ : Int) => 1)
  k_with "call ref" => k_call_rec "_law_whole" (fun (_ : Int) => true) (fun (_ : Int) => True) (fun (_ : Int) => 1)
  k_with "call ref" => k_call_rec "n_of" K6.nF (fun (w : Int) => 0 ≤ w ∧ w ≤ 4294967295) (fun (_ : Int) => 5)
  k_with "call ref" => k_call_rec "s_of" K6.sF (fun (w : Int) => 0 ≤ w ∧ w ≤ 4294967295) (fun (_ : Int) => 7)
  k_with "call ref" => k_call_rec "_law_place_by" K6.placeBy (fun (_ : Int) => True) (fun (_ : Int) => 1)
  k_with "fact ones" => exact K6.ones_factX
  k_with "fact with_field" => exact K6.put_factX
  k_with "fact field" => exact K6.field_factX
  k_with "fact signed" => exact K6.sg_factX
  k_with "fact n_of" => exact K6.n_fact
  k_with "fact s_of" => exact K6.s_fact
  k_with "tree" => first
    | with_reducible exact K6.pl_a (by assumption) (by assumption) (by assumption) (by omega)
    | with_reducible exact K6.pl_b (by assumption) (by assumption) (by assumption) (by omega)
    | with_reducible exact K6.pl_c (by assumption) (by assumption) (by assumption) (by assumption) (by omega) (by omega)
    | (simp only [K6.nF]; omega)
    | (simp only [K6.sF]; omega)
    | with_reducible exact K6.wrap_outX (by assumption)
    | with_reducible exact K6.moved_downX (by omega)
    | with_reducible exact K6.moved_upX (by omega)
    | with_reducible exact K6.ones_eqX (by omega)
    | with_reducible exact K6.field_eqX (by assumption) (by omega)
    | with_reducible exact K6.with_eqW (by assumption) (by omega) (by omega) (by omega) (by omega) (by omega)
    | with_reducible exact K6.with_eqZ (by assumption) (by assumption) (by omega) (by omega) (by omega) (by omega) (by omega)
    | with_reducible exact K6.with_eqX (by assumption) (by omega) (by omega) (by omega) (by omega) (by omega)
    | with_reducible exact K6.with_eqY (by assumption) (by assumption) (by omega) (by omega) (by omega) (by omega) (by omega)
    | with_reducible exact K6.signed_eqX (by assumption) (by omega)
    | (exfalso; omega)
  k_with "pyIter ref" => k_search (fun _ => True)
  open_k
#print axioms PySem.Challenge.cw_joinload_k06_high_and_low_together_holds
