/- Numbers as rows of their binary digits, the lowest first; no condition. -/
namespace Go.Proofs.Ytllgkkbdpabhjaa

def val : List Nat → Nat
  | [] => 0
  | d :: r => d + 2 * val r
def bitsL (l : List Nat) : Prop := ∀ d ∈ l, d < 2
/-- A number's digits. -/
def dg (n : Nat) : List Nat := if _h : n = 0 then [] else n % 2 :: dg (n / 2)
termination_by n
decreasing_by omega

theorem dg_zero : dg 0 = [] := by rw [dg]; rfl
theorem dg_pos (n : Nat) (h : n ≠ 0) : dg n = n % 2 :: dg (n / 2) := by rw [dg, dif_neg h]
theorem dg_nil (n : Nat) : dg n = [] ↔ n = 0 := by
  constructor
  · intro h
    by_cases h0 : n = 0
    · exact h0
    · rw [dg_pos n h0] at h; cases h
  · rintro rfl; exact dg_zero

theorem val_dg (n : Nat) : val (dg n) = n := by
  induction n using Nat.strongRecOn with
  | ind n ih =>
    by_cases h : n = 0
    · subst h; rw [dg_zero]; rfl
    · rw [dg_pos n h, val, ih (n / 2) (by omega)]; omega
theorem bits_dg (n : Nat) : bitsL (dg n) := by
  induction n using Nat.strongRecOn with
  | ind n ih =>
    by_cases h : n = 0
    · subst h; rw [dg_zero]; intro d hd; cases hd
    · rw [dg_pos n h]
      intro d hd
      cases hd with
      | head => omega
      | tail _ hd => exact ih (n / 2) (by omega) d hd
theorem getD_dg (n i : Nat) : (dg n).getD i 0 = n / 2 ^ i % 2 := by
  induction n using Nat.strongRecOn generalizing i with
  | ind n ih =>
    by_cases h : n = 0
    · subst h; rw [dg_zero]; simp
    · rw [dg_pos n h]
      cases i with
      | zero => simp
      | succ i =>
        rw [List.getD_cons_succ, ih (n / 2) (by omega), Nat.div_div_eq_div_mul, Nat.pow_succ']

theorem length_dg (n : Nat) (h : n ≠ 0) : (dg n).length = n.log2 + 1 := by
  induction n using Nat.strongRecOn with
  | ind n ih =>
    rw [dg_pos n h, List.length_cons]
    by_cases h2 : n / 2 = 0
    · rw [h2, dg_zero]
      have : n = 1 := by omega
      subst this
      rfl
    · rw [ih (n / 2) (by omega) h2]
      rw [Nat.log2_def n, if_pos (by omega)]
theorem lt_length (n : Nat) : n < 2 ^ (dg n).length := by
  by_cases h : n = 0
  · subst h; rw [dg_zero]; decide
  · rw [length_dg n h]; exact Nat.lt_log2_self
theorem length_le (n k : Nat) (h : n < 2 ^ k) : (dg n).length ≤ k := by
  by_cases h0 : n = 0
  · subst h0; rw [dg_zero]; exact Nat.zero_le _
  · rw [length_dg n h0]
    have := (Nat.log2_lt h0).2 h
    omega

theorem val_append (a b : List Nat) : val (a ++ b) = val a + 2 ^ a.length * val b := by
  induction a with
  | nil => simp [val]
  | cons d r ih =>
    rw [List.cons_append, val, val, ih, List.length_cons, Nat.pow_succ]
    rw [Nat.mul_add, ← Nat.mul_assoc, Nat.mul_comm 2 (2 ^ r.length)]
    omega
theorem val_lt (l : List Nat) (h : bitsL l) : val l < 2 ^ l.length := by
  induction l with
  | nil => simp [val]
  | cons d r ih =>
    have h1 := h d (List.mem_cons_self ..)
    have h2 := ih (fun x hx => h x (List.mem_cons_of_mem _ hx))
    rw [val, List.length_cons, Nat.pow_succ]
    omega
theorem val_replicate (k : Nat) : val (List.replicate k 0) = 0 := by
  induction k with
  | zero => rfl
  | succ k ih => rw [List.replicate_succ, val, ih]
theorem bits_append {a b : List Nat} (ha : bitsL a) (hb : bitsL b) : bitsL (a ++ b) := by
  intro d hd
  rcases List.mem_append.1 hd with h | h
  · exact ha d h
  · exact hb d h
theorem bits_replicate (k : Nat) : bitsL (List.replicate k 0) := by
  intro d hd
  have := (List.mem_replicate.1 hd).2
  omega
theorem bits_one {d : Nat} (h : d < 2) : bitsL [d] := by
  intro x hx
  have := List.mem_singleton.1 hx
  omega
theorem bits_take {l : List Nat} (h : bitsL l) (k : Nat) : bitsL (l.take k) := fun d hd => h d (List.mem_of_mem_take hd)
theorem bits_drop {l : List Nat} (h : bitsL l) (k : Nat) : bitsL (l.drop k) := fun d hd => h d (List.mem_of_mem_drop hd)
theorem bits_getD {l : List Nat} (h : bitsL l) (k : Nat) : l.getD k 0 < 2 := by
  rw [List.getD_eq_getElem?_getD]
  by_cases hk : k < l.length
  · rw [List.getElem?_eq_getElem hk]; exact h _ (List.getElem_mem hk)
  · rw [List.getElem?_eq_none (by omega)]; decide

/-- A row of digits without noughts above is its number's. -/
theorem dg_val (l : List Nat) (hb : bitsL l) (hc : l = [] ∨ l.getD (l.length - 1) 0 ≠ 0) : l = dg (val l) := by
  induction l with
  | nil => rw [val, dg_zero]
  | cons d r ih =>
    have h1 := hb d (List.mem_cons_self ..)
    have hbr : bitsL r := fun x hx => hb x (List.mem_cons_of_mem _ hx)
    rcases hc with hc | hc
    · cases hc
    cases hr : r with
    | nil =>
      subst hr
      have : d ≠ 0 := by simpa using hc
      rw [val, val, dg_pos _ (by omega)]
      have e1 : (d + 2 * 0) % 2 = d := by omega
      have e2 : (d + 2 * 0) / 2 = 0 := by omega
      rw [e1, e2, dg_zero]
    | cons d2 r2 =>
      rw [← hr]
      have hc2 : r.getD (r.length - 1) 0 ≠ 0 := by
        rw [hr] at hc ⊢
        have : (d :: d2 :: r2).length - 1 = (d2 :: r2).length - 1 + 1 := by simp
        rw [this, List.getD_cons_succ] at hc
        exact hc
      have e := ih hbr (.inr hc2)
      have hv : val r ≠ 0 := by
        intro h0
        rw [h0, dg_zero, hr] at e
        cases e
      rw [val, dg_pos _ (by omega)]
      have e1 : (d + 2 * val r) % 2 = d := by omega
      have e2 : (d + 2 * val r) / 2 = val r := by omega
      rw [e1, e2, ← e]

theorem val_take_zero (l : List Nat) (k : Nat) (h : l.getD k 0 = 0) : val (l.take (k + 1)) = val (l.take k) := by
  by_cases hk : k < l.length
  · rw [List.take_succ_eq_append_getElem hk, val_append]
    have : l[k] = 0 := by simpa [List.getD_eq_getElem?_getD, List.getElem?_eq_getElem hk] using h
    rw [this]; simp [val]
  · rw [List.take_of_length_le (by omega), List.take_of_length_le (by omega)]

theorem getD_take (l : List Nat) (k j : Nat) (h : j < k) : (l.take k).getD j 0 = l.getD j 0 := by
  simp [List.getD_eq_getElem?_getD, h]

/-- What trim leaves: the first k digits, where those behind are 0 and the k-th isn't. -/
theorem trim_dg (l : List Nat) (hb : bitsL l) (k : Nat) (hk : k ≤ l.length) (hv : val (l.take k) = val l) (hc : k = 0 ∨ l.getD (k - 1) 0 ≠ 0) : l.take k = dg (val l) := by
  rw [← hv]
  refine dg_val _ (bits_take hb k) ?_
  rcases hc with rfl | hc
  · left; simp
  · by_cases h0 : k = 0
    · left; subst h0; simp
    · right
      rw [List.length_take, Nat.min_eq_left hk, getD_take _ _ _ (by omega)]
      exact hc

theorem mod_succ (a i : Nat) : a % 2 ^ (i + 1) = a % 2 ^ i + 2 ^ i * (a / 2 ^ i % 2) := Nat.mod_pow_succ

/-- One step of a sum. -/
theorem add_step (a b i o c : Nat) (ho : o + 2 ^ i * c = a % 2 ^ i + b % 2 ^ i) (x : Nat) (hx : x = a / 2 ^ i % 2 + b / 2 ^ i % 2 + c) :
    o + 2 ^ i * (x % 2) + 2 ^ (i + 1) * (x / 2) = a % 2 ^ (i + 1) + b % 2 ^ (i + 1) := by
  rw [mod_succ, mod_succ, Nat.pow_succ]
  have e : 2 ^ i * (x % 2) + 2 ^ i * 2 * (x / 2) = 2 ^ i * x := by
    rw [Nat.mul_assoc, ← Nat.mul_add]; congr 1; omega
  have e2 : 2 ^ i * x = 2 ^ i * (a / 2 ^ i % 2) + 2 ^ i * (b / 2 ^ i % 2) + 2 ^ i * c := by
    rw [hx, Nat.mul_add, Nat.mul_add]
  omega
/-- One step of a difference. -/
theorem sub_step (a b i o c : Nat) (ho : o + b % 2 ^ i = a % 2 ^ i + 2 ^ i * c) (x : Nat) (hc : c < 2) (hx : x = 2 + a / 2 ^ i % 2 - b / 2 ^ i % 2 - c) :
    o + 2 ^ i * (x % 2) + b % 2 ^ (i + 1) = a % 2 ^ (i + 1) + 2 ^ (i + 1) * (1 - x / 2) := by
  have ha := Nat.mod_lt (a / 2 ^ i) (show 0 < 2 by omega)
  have hb := Nat.mod_lt (b / 2 ^ i) (show 0 < 2 by omega)
  rw [mod_succ, mod_succ, Nat.pow_succ]
  have e : 2 ^ i * (x % 2) + 2 ^ i * (b / 2 ^ i % 2) + 2 ^ i * c = 2 ^ i * (a / 2 ^ i % 2) + 2 ^ i * 2 * (1 - x / 2) := by
    rw [Nat.mul_assoc, ← Nat.mul_add, ← Nat.mul_add, ← Nat.mul_add]; congr 1; omega
  omega
theorem mod_all (a k : Nat) (h : (dg a).length ≤ k) : a % 2 ^ k = a :=
  Nat.mod_eq_of_lt (Nat.lt_of_lt_of_le (lt_length a) (Nat.pow_le_pow_right (by omega) h))
end Go.Proofs.Ytllgkkbdpabhjaa
