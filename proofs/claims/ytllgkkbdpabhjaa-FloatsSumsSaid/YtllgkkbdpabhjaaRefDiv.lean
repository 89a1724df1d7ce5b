/- The document's quotient, at every two words. -/
import Derived.Test.YtllgkkbdpabhjaaFresh
import Derived.Test.YtllgkkbdpabhjaaMulMath
import Derived.Laws.OwnMore
namespace Go.Proofs.Ytllgkkbdpabhjaa
open Go Go.Proofs Go.RowKit

theorem getD_val (l : List Nat) (hb : bitsL l) (j : Nat) : l.getD j 0 = val l / 2 ^ j % 2 := by
  induction l generalizing j with
  | nil => simp [val]
  | cons d r ih =>
    have h1 := hb d (List.mem_cons_self ..)
    have h2 : bitsL r := fun x hx => hb x (List.mem_cons_of_mem _ hx)
    cases j with
    | zero => simp [val]; omega
    | succ j =>
      rw [List.getD_cons_succ, ih h2 j, val, Nat.pow_succ', ← Nat.div_div_eq_div_mul]
      congr 2; omega
theorem val_set (l : List Nat) (j : Nat) (hj : j < l.length) (h0 : l.getD j 0 = 0) : val (l.set j 1) = val l + 2 ^ j := by
  induction l generalizing j with
  | nil => cases hj
  | cons d r ih =>
    cases j with
    | zero =>
      have : d = 0 := by simpa using h0
      rw [List.set_cons_zero, val, val, this]; omega
    | succ j =>
      rw [List.getD_cons_succ] at h0
      rw [List.set_cons_succ, val, val, ih j (by simpa using hj) h0, Nat.pow_succ]; omega
theorem bits_set {l : List Nat} (h : bitsL l) (j : Nat) : bitsL (l.set j 1) := by
  intro d hd
  rcases List.mem_or_eq_of_mem_set hd with h' | h'
  · exact h d h'
  · omega
theorem cN_set (l : List Nat) (j : Nat) : (cN l).set j (.int .u8 1) = cN (l.set j 1) := by
  unfold cN
  rw [List.map_set]; rfl

theorem val_front (d r : Nat) : val ([d] ++ dg r) = d + 2 * r := by
  rw [List.singleton_append, val, val_dg]

theorem len_front (d r : Nat) (h : (dg r).length ≤ 53) : ([d] ++ dg r).length ≤ 1048576 := by
  rw [List.singleton_append, List.length_cons]
  omega
theorem bits_front (d r : Nat) (h : d < 2) : bitsL ([d] ++ dg r) := bits_append (bits_one h) (bits_dg r)

/-- One step of a quotient. -/
theorem div_next (P N k q r b : Nat) (hN : 0 < N) (hq : q = P / 2 ^ (k + 1) / N) (hr : r = P / 2 ^ (k + 1) % N) (hb : b = P / 2 ^ k % 2) :
    (N ≤ b + 2 * r → P / 2 ^ k / N = 2 * q + 1 ∧ P / 2 ^ k % N = b + 2 * r - N) ∧ (b + 2 * r < N → P / 2 ^ k / N = 2 * q ∧ P / 2 ^ k % N = b + 2 * r) := by
  have hs := div_step P k
  have hr2 : r < N := by rw [hr]; exact Nat.mod_lt _ hN
  have he := Nat.div_add_mod (P / 2 ^ (k + 1)) N
  rw [← hq, ← hr] at he
  rw [← hb] at hs
  have hb2 : b < 2 := by rw [hb]; omega
  have hP : P / 2 ^ k = N * (2 * q) + (b + 2 * r) := by
    rw [hs, ← he, Nat.mul_add, Nat.mul_left_comm]; omega
  rw [hP]
  constructor
  · intro h
    obtain ⟨c, hc⟩ : ∃ c, b + 2 * r = N + c := ⟨b + 2 * r - N, by omega⟩
    have hcN : c < N := by omega
    rw [hc, show N * (2 * q) + (N + c) = N * (2 * q + 1) + c by rw [Nat.mul_add]; omega]
    rw [Nat.mul_add_div hN, Nat.mul_add_mod, Nat.div_eq_of_lt hcN, Nat.mod_eq_of_lt hcN]
    omega
  · intro h
    rw [Nat.mul_add_div hN, Nat.mul_add_mod, Nat.div_eq_of_lt h, Nat.mod_eq_of_lt h]
    omega

theorem bit_zero (Q k : Nat) : Q * 2 ^ (k + 1) / 2 ^ k % 2 = 0 := by
  rw [Nat.pow_succ, show Q * (2 ^ k * 2) = Q * 2 * 2 ^ k by rw [Nat.mul_comm (2 ^ k) 2, Nat.mul_assoc], Nat.mul_div_cancel _ (Nat.two_pow_pos k)]; omega

/-- The ways of a quotient, and what comes of them. -/
def divCase (s t i j na nb : Bool) (m n : Int) (M N O : Nat) (p : Int) (R : Nat) : Prop :=
  ((na = true ∨ (na = false ∧ nb = true) ∨ (na = false ∧ nb = false ∧ i = true ∧ j = true) ∨ (na = false ∧ nb = false ∧ i = false ∧ j = false ∧ (m == 0) = true ∧ (n == 0) = true)) ∧ R = noneB) ∨
  (((na = false ∧ nb = false ∧ i = true ∧ j = false) ∨ (na = false ∧ nb = false ∧ i = false ∧ j = false ∧ (m == 0) = false ∧ (n == 0) = true)) ∧ R = Ieee.double.nearest (!(s == t)) O 0) ∨
  (((na = false ∧ nb = false ∧ i = false ∧ j = true ∧ (n == 0) = true) ∨ (na = false ∧ nb = false ∧ i = false ∧ j = false ∧ (m == 0) = true ∧ (n == 0) = false)) ∧ R = Ieee.double.nearest (!(s == t)) 0 0) ∨
  (na = false ∧ nb = false ∧ i = false ∧ j = false ∧ (m == 0) = false ∧ (n == 0) = false ∧ 0 < M ∧ 0 < N ∧
    R = Ieee.double.nearest (!(s == t)) (2 * (M * 2 ^ 120 / N) + (decide (0 < M * 2 ^ 120 % N)).toNat) (p - 120 - 1))

theorem grown_of_below {W W' : World} (h : Below W.heap.size W W') : W.grownBy W' none := ⟨h.os, h.tape, h.output, h.size, fun k hk _ => h.block k hk⟩

set_option maxRecDepth 100000 in
set_option maxHeartbeats 2000000 in
theorem refDiv_walk (x y : Nat) (s t i j na nb : Bool) (m n e f p z : Int) (M N O R : Nat) (w : World)
    (hx : ∀ w, Calls Try.prog 23 #[.int .u64 (x : Int)] w fun r w' => r = .returned (.tuple #[.bool s, .int .i64 e, .int .u64 m, .bool i, .bool na]) ∧ w = w')
    (hy : ∀ w, Calls Try.prog 23 #[.int .u64 (y : Int)] w fun r w' => r = .returned (.tuple #[.bool t, .int .i64 f, .int .u64 n, .bool j, .bool nb]) ∧ w = w')
    (hm : m = M) (hn : n = N) (hM : M < 9007199254740992) (hN : N < 9007199254740992)
    (e1 : -1074 ≤ e) (e2 : e ≤ 971) (f1 : -1074 ≤ f) (f2 : f ≤ 971) (hp : p = e - f)
    (hz : z = 2000) (hO : O = 1 * 2 ^ z.toNat) (lO : (dg O).length ≤ 9000)
    (hC : divCase s t i j na nb m n M N O p R) :
    Calls Try.prog 21 #[.int .u64 (x : Int), .int .u64 (y : Int)] w fun r w' => r = .returned (.int .u64 (R : Int)) ∧ Below w.heap.size w w' := by
  subst hp
  unfold divCase at hC
  go_enter Try.func21, Try.ntmps21
  have hNB : ((noneB : Nat) : Int) = 9221120237041090561 := rfl
  generalize (9221120237041090561 : Int) = NB at hNB ⊢
  have HNB := Lib.hid hNB
  have HM := Lib.hid hm
  have HN := Lib.hid hn
  have LO := Lib.hid lO
  clear hNB hm hn lO
  rcases hC with ⟨h, rfl⟩ | ⟨h, rfl⟩ | ⟨h, rfl⟩ | ⟨rfl, rfl, rfl, rfl, zm, zn, pM, pN, hR⟩
  · rcases h with rfl | ⟨rfl, rfl⟩ | ⟨rfl, rfl, rfl, rfl⟩ | ⟨rfl, rfl, rfl, rfl, h1, h2⟩
    all_goals
      go_wp2_with (first
        | (go_at_call 23; ((with_reducible refine (hx _).mono ?_); rintro r w' ⟨rfl, rfl⟩))
        | (go_at_call 23; ((with_reducible refine (hy _).mono ?_); rintro r w' ⟨rfl, rfl⟩)))
      go_ret
      exact ⟨by rw [HNB.out]; rfl, Below.refl _ _⟩
  · have c1 := of_digits_z 1 z 1 rfl (by omega) (by omega) (by omega) w.heap.size w rfl
    rw [← hO, hz] at c1
    have C1 := Lib.hid c1
    clear c1 hz hO
    rcases h with ⟨rfl, rfl, rfl, rfl⟩ | ⟨rfl, rfl, rfl, rfl, h1, h2⟩
    all_goals
      go_wp2_with (first
        | (go_at_call 23; ((with_reducible refine (hx _).mono ?_); rintro r w' ⟨rfl, rfl⟩))
        | (go_at_call 23; ((with_reducible refine (hy _).mono ?_); rintro r w' ⟨rfl, rfl⟩)))
      with_reducible refine (C1.out _ (Below.refl _ _)).mono ?_
      rintro r w1 ⟨⟨u1, rfl, r1⟩, hb1, _⟩
      have cr := Lib.hid (round_num (!(s == t)) _ u1 0 w1 (Nat.le_trans LO.out (by omega)) (by omega) (by omega) r1)
      clear r1
      go_wp2_with fail
      with_reducible refine cr.out.mono ?_
      rintro r w4 ⟨rfl, hb4⟩
      go_wp2_with fail
      go_ret
      exact ⟨rfl, hb1.trans (hb4.mono hb1.size)⟩
  · clear hz hO
    have hB0 := (Below.refl w.heap.size w).alloc (Nat.le_refl _) (.cells #[] 5)
    have cr := Lib.hid (round_num (!(s == t)) 0 (.slice (some ⟨w.heap.size, 0, none⟩) 0 0) 0 (w.alloc (.cells #[] 5)) (by rw [dg_zero]; simp) (by omega) (by omega) (by rw [dg_zero]; exact .inl ⟨_, 0, (fun e => by cases e), rfl, rfl⟩))
    have HB0 := Lib.hid hB0
    clear hB0
    rcases h with ⟨rfl, rfl, rfl, rfl, h1⟩ | ⟨rfl, rfl, rfl, rfl, h1, h2⟩
    all_goals
      go_wp2_with (first
        | (go_at_call 23; ((with_reducible refine (hx _).mono ?_); rintro r w' ⟨rfl, rfl⟩))
        | (go_at_call 23; ((with_reducible refine (hy _).mono ?_); rintro r w' ⟨rfl, rfl⟩)))
      with_reducible refine cr.out.mono ?_
      rintro r w4 ⟨rfl, hb4⟩
      go_wp2_with fail
      go_ret
      exact ⟨rfl, HB0.out.trans (hb4.mono HB0.out.size)⟩
  · clear hz hO
    have c1 := of_digits_z M 120 m HM.out (by omega) (by omega) (by omega) w.heap.size w rfl
    have c2 := of_digits_z N 0 n HN.out (by omega) (by omega) (by omega) w.heap.size w rfl
    have e0 : N * 2 ^ (0 : Int).toNat = N := by simp
    have e120 : M * 2 ^ (120 : Int).toNat = M * 2 ^ 120 := rfl
    rw [e0] at c2
    rw [e120] at c1
    have hP : M * 2 ^ 120 < 2 ^ 173 := by omega
    have hPN : 2 ^ 60 ≤ M * 2 ^ 120 / N := by
      rw [Nat.le_div_iff_mul_le pN]; omega
    clear e0 e120
    generalize M * 2 ^ 120 = P at *
    have HRR := Lib.hid hR
    clear hR
    have hlP : (dg P).length ≤ 173 := length_le P 173 hP
    have hlN : (dg N).length ≤ 53 := length_le N 53 (by omega)
    have hQ0 : P / N ≠ 0 := by omega
    have hQl : 54 ≤ (dg (P / N)).length := by
      rw [length_dg _ hQ0]
      have : 60 ≤ (P / N).log2 := (Nat.le_log2 hQ0).2 hPN
      omega
    have hQu : (dg (P / N)).length ≤ 10000 := by
      have : P / N ≤ P := Nat.div_le_self _ _
      exact Nat.le_trans (length_le _ 173 (by omega)) (by omega)
    have C1 := Lib.hid c1
    have C2 := Lib.hid c2
    have HQ := Lib.hid (And.intro hQ0 (And.intro hQl hQu))
    have HLN := Lib.hid hlN
    have hP0 := lt_length P
    have HP0 := Lib.hid hP0
    clear c1 c2 hP hPN hQ0 hQl hQu hlN hP0 pM
    go_wp2_with (first
        | (go_at_call 23; ((with_reducible refine (hx _).mono ?_); rintro r w' ⟨rfl, rfl⟩))
        | (go_at_call 23; ((with_reducible refine (hy _).mono ?_); rintro r w' ⟨rfl, rfl⟩)))
    with_reducible refine (C1.out _ (Below.refl _ _)).mono ?_
    rintro r w1 ⟨⟨u1, rfl, r1⟩, hb1, _⟩
    go_wp2_with fail
    with_reducible refine (C2.out _ hb1).mono ?_
    rintro r w2 ⟨⟨u2, rfl, r2⟩, hb2, hb12⟩
    have r1' := (r1.below hb12).more hb12.size
    obtain ⟨a1, c1, rfl, hc1⟩ := r1.shape
    have R1 := Lib.hid r1'
    have R2 := Lib.hid r2
    clear r1 r1' r2 hb12
    generalize hl : (dg P).length = L at *
    have HL := Lib.hid hl
    clear hl
    have km := make_zeros L (by omega) w2
    go_wp2_with fail
    clear km
    go_loopw [19, 20] (fun v i wr => ∃ (k : Nat) (z : Int) (l : List Nat), k ≤ L ∧ i = .int .i64 z ∧ z + 1 = k ∧ l.length = L ∧ Hid (wr.ownsRow w2.heap.size 5 1 (.slice (some ⟨w2.heap.size, 0, none⟩) L L) L (cN l)) ∧ Hid (bitsL l) ∧ Hid (val l = P / 2 ^ k / N * 2 ^ k) ∧ Hid (RowAt wr.heap.size wr v (dg (P / 2 ^ k % N))) ∧ Hid (∀ b, v.ownBlock = some b → b ≠ w2.heap.size) ∧ Hid (Below w2.heap.size w2 wr)) (fun _ i _ => (intOf i + 1).toNat)
    case atStart =>
      have hPL : P / 2 ^ L = 0 := Nat.div_eq_of_lt HP0.out
      refine ⟨L, (L : Int) - 1, List.replicate L 0, by omega, rfl, by omega, by simp, Lib.hid ?_, Lib.hid (bits_replicate L), Lib.hid ?_, Lib.hid ?_, Lib.hid ?_, Lib.hid (((Below.refl _ w2).alloc (Nat.le_refl _) _).alloc (by simp) _)⟩
      · have := (World.ownsRow_lit (base := w2.heap.size) (e := 5) (size := 1) w2 (cN (List.replicate L 0)).toArray L (Nat.le_refl _) (by unfold maxLen; omega) (by simp [cN]))
        exact this.alloc _
      · rw [val_replicate, hPL, Nat.zero_div, Nat.zero_mul]
      · rw [hPL, Nat.zero_mod, dg_zero]
        exact .inl ⟨_, 0, (fun e => by cases e), rfl, rfl⟩
      · intro b hb
        simp [Value.ownBlock] at hb
        omega
    case round =>
      obtain ⟨k, z, l, hk, rfl, hz, hll, hown, hbits, hval, hrow, hne, hbel⟩ := hrel
      have hsz := hbel.out.size
      cases k with
      | zero =>
        obtain rfl : z = -1 := by omega
        clear hz
        have hv0 : val l = P / N := by rw [hval.out]; simp
        have hr0 := hrow.out
        rw [Nat.pow_zero, Nat.div_one] at hr0
        have hO : Own wr w2.heap.size (.slice (some ⟨w2.heap.size, 0, none⟩) L L) l := .inr (by rw [hll]; exact hown.out)
        have ct := trim_any hbits.out (by omega) wr hO.row
        rw [hv0] at ct
        have CT := Lib.hid ct
        obtain ⟨q1, q2, q3⟩ := HQ.out
        have cr : ∀ (b : Bool) (v : Value), RowAt wr.heap.size wr v (dg (P / N)) → Calls Try.prog 28 #[.bool (!(s == t)), v, .int .i64 (e - f - 120), .bool b] wr fun r w' => r = .returned (.int .u64 ((Ieee.double.nearest (!(s == t)) (2 * (P / N) + b.toNat) (e - f - 120 - 1) : Nat) : Int)) ∧ Below wr.heap.size wr w' :=
          fun b v hv => round_any (!(s == t)) b (P / N) v (e - f - 120) wr q1 q3 (by omega) (by omega) (.inr q2) hv
        have CR := Lib.hid cr
        obtain ⟨a9, c9, hsh, _⟩ := hr0.shape
        subst hsh
        clear cr ct hv0 hr0 hO q1 q2 q3 hval hrow hne hown hbits
        by_cases h0 : P % N = 0
        · have hK : (dg (P % N)).length = 0 := by rw [h0, dg_zero]; rfl
          have hdec : decide (0 < P % N) = false := by simp [h0]
          have HD := Lib.hid hdec
          clear h0 hdec
          generalize (dg (P % N)).length = K at hK ⊢
          subst hK
          go_wp2_with fail
          with_reducible refine CT.out.mono ?_
          rintro r w' ⟨⟨v5, rfl, r5⟩, rfl⟩
          have hR0 : R = Ieee.double.nearest (!(s == t)) (2 * (P / N) + (false : Bool).toNat) (e - f - 120 - 1) := by rw [HRR.out, HD.out]
          have c5 := CR.out false v5 r5
          rw [← hR0] at c5
          have C5 := Lib.hid c5
          clear c5 hR0
          clear r5
          go_wp2_with fail
          with_reducible refine C5.out.mono ?_
          rintro r w6 ⟨rfl, hb6⟩
          go_wp2_with fail
          go_ret
          exact ⟨rfl, hb2.trans ((hbel.out.mono hb2.size).trans (hb6.mono (Nat.le_trans hb2.size hsz)))⟩
        · have hK : 0 < (dg (P % N)).length := by
            rw [length_dg _ h0]; omega
          have hdec : decide (0 < P % N) = true := by simp; omega
          have HD := Lib.hid hdec
          clear h0 hdec
          generalize (dg (P % N)).length = K at hK ⊢
          go_wp2_with fail
          with_reducible refine CT.out.mono ?_
          rintro r w' ⟨⟨v5, rfl, r5⟩, rfl⟩
          have hR0 : R = Ieee.double.nearest (!(s == t)) (2 * (P / N) + (true : Bool).toNat) (e - f - 120 - 1) := by rw [HRR.out, HD.out]
          have c5 := CR.out true v5 r5
          rw [← hR0] at c5
          have C5 := Lib.hid c5
          clear c5 hR0
          clear r5
          go_wp2_with fail
          with_reducible refine C5.out.mono ?_
          rintro r w6 ⟨rfl, hb6⟩
          go_wp2_with fail
          go_ret
          exact ⟨rfl, hb2.trans ((hbel.out.mono hb2.size).trans (hb6.mono (Nat.le_trans hb2.size hsz)))⟩
      | succ q =>
        obtain rfl : z = (q : Int) := by omega
        clear hz
        have hg : w2.heap.size < wr.heap.size := by
          have := hown.out.lt w2.heap.size (by simp [Value.ownBlock])
          exact this.2
        have hcells : ∃ b off, a1 = some ⟨b, off, none⟩ ∧ wr.cell? ⟨b, off + q, none⟩ = some (.int .u8 ((P / 2 ^ q % 2 : Nat) : Int)) := by
          have hLL := HL.out
          rcases R1.out.below hbel.out with ⟨_, _, _, _, hn⟩ | ⟨b, off, cap', e1, _, _, hh⟩
          · rw [hn] at hLL; simp at hLL; omega
          · cases e1
            have := hh q (by omega)
            rw [getD_dg] at this
            exact ⟨b, off, rfl, this⟩
        obtain ⟨b, off, rfl, hcell⟩ := hcells
        have hnext := div_next P N q _ _ _ pN rfl rfl rfl
        have hrN : P / 2 ^ (q + 1) % N < N := Nat.mod_lt _ pN
        have hd2 : P / 2 ^ q % 2 < 2 := Nat.mod_lt _ (by omega)
        have hz0 : l.getD q 0 = 0 := by rw [getD_val l hbits.out, hval.out, bit_zero]
        have hset := val_set l q (by omega) hz0
        have hbs := bits_set hbits.out q
        rw [hval.out] at hset
        have hrl : (dg (P / 2 ^ (q + 1) % N)).length ≤ 53 := length_le _ 53 (by omega)
        generalize P / 2 ^ (q + 1) / N = Qk at *
        generalize P / 2 ^ (q + 1) % N = r at *
        generalize hdd : P / 2 ^ q % 2 = d at *
        clear hdd
        have HNX := Lib.hid hnext
        have HSET := Lib.hid hset
        have HBS := Lib.hid hbs
        have HZ0 := Lib.hid hz0
        have HRL := Lib.hid hrl
        have hNb : N < 9007199254740992 := hN
        have hX : d + 2 * r < 18014398509481984 := by omega
        have lX : (dg (d + 2 * r)).length ≤ 54 := length_le _ 54 (by omega)
        have LX := Lib.hid lX
        clear hnext hset hbs hz0 hrl lX
        have hlit : Hid ((wr.alloc (.cells #[.int .u8 (d : Int)] 5)).ownsRow wr.heap.size 5 1 (.slice (some ⟨wr.heap.size, 0, none⟩) 1 1) 1 (cN [d])) := Lib.hid (by
          have := World.ownsRow_lit (base := wr.heap.size) (e := 5) (size := 1) wr #[.int .u8 (d : Int)] 1 (Nat.le_refl _) (by unfold maxLen; omega) (by simp)
          simpa [cN] using this)
        have hrow2 := Lib.hid (hrow.out.below ((Below.refl wr.heap.size wr).alloc (Nat.le_refl _) (.cells #[.int .u8 (d : Int)] 5)))
        go_wp2_with (at_builtin; refine wpList_append_row Try.underlying48 rfl _ _ rfl wr.heap.size _ [d] rfl (.inr hlit.out) wr.heap.size _ (dg r) rfl hrow2.out ?qc ?qd (.inr hlit.out) ?_)
        case qc => have := HRL.out; simp; omega
        case qd => simp
        intro v' w3 hown3 hgrow3
        have hsz3 : wr.heap.size + 1 ≤ w3.heap.size := by have := hgrow3.size; simpa using this
        have hq3 : w3.ownsRow w2.heap.size 5 1 (.slice (some ⟨w2.heap.size, 0, none⟩) L L) L (cN l) := (hown.out.alloc _).kept hgrow3 (.inr (by simp [Value.ownBlock]; omega))
        have hB3 : Below w2.heap.size w2 w3 := (hbel.out.alloc hsz _).grown hgrow3 (by simp; omega) (fun k hk => by simp [Value.ownBlock] at hk; omega)
        have hvl : val ([d] ++ dg r) = d + 2 * r := val_front d r
        have ct := trim_own (bits_front d r hd2) (len_front d r HRL.out) w3 hown3.row
        rw [hvl] at ct
        have hlt3 := hown3.lt
        have CT := Lib.hid ct
        have HLT := Lib.hid hlt3
        have HQ3 := Lib.hid hq3
        have HB3 := Lib.hid hB3
        clear ct hlt3 hq3 hB3 hown3 hgrow3 hvl
        go_wp2_with fail
        with_reducible refine CT.out.mono ?_
        rintro r' w' ⟨⟨v5, rfl, r5, o5⟩, rfl⟩
        have R5 := Lib.hid r5
        have O5 : Hid (∀ b, v5.ownBlock = some b → wr.heap.size ≤ b) := Lib.hid (fun b hb => (HLT.out b (by rw [← o5]; exact hb)).1)
        clear r5 o5
        have cc := cmp_digits (d + 2 * r) N w3 (by have := LX.out; omega) (by have := HLN.out; omega) R5.out ((R2.out.below HB3.out).more HB3.out.size)
        rcases Nat.lt_or_ge (d + 2 * r) N with g | g
        · have hc : cmpI (d + 2 * r) N = -1 := by unfold cmpI; rw [if_neg (by omega), if_pos g]
          rw [hc] at cc
          have CC := Lib.hid cc
          obtain ⟨n1, n2⟩ := HNX.out.2 g
          have HV : Hid (val l = P / 2 ^ q / N * 2 ^ q) := Lib.hid (by rw [hval.out, n1, Nat.pow_succ]; rw [Nat.mul_comm 2 Qk, Nat.mul_assoc, Nat.mul_comm 2 (2 ^ q)])
          have HR : Hid (RowAt w3.heap.size w3 v5 (dg (P / 2 ^ q % N))) := by rw [n2]; exact R5
          clear cc hc n1 n2
          go_wp2_with fail
          with_reducible refine CC.out.mono ?_
          rintro r' w' ⟨rfl, rfl⟩
          go_wp2_with fail
          go_roundw
          case rel => exact ⟨q, (q : Int) - 1, l, by omega, rfl, by omega, hll, HQ3, hbits, HV, HR, Lib.hid (fun b hb => by have := O5.out b hb; omega), HB3⟩
          case measure => simp [intOf]
        · have hc : 0 ≤ cmpI (d + 2 * r) N := by
            unfold cmpI
            split
            · omega
            · rw [if_neg (by omega)]; omega
          have cs := sub_own (d + 2 * r) N g w3 (by have := LX.out; omega) (by have := HLN.out; omega) R5.out ((R2.out.below HB3.out).more HB3.out.size)
          generalize cmpI (d + 2 * r) N = c at cc hc
          have CC := Lib.hid cc
          have CS := Lib.hid cs
          obtain ⟨n1, n2⟩ := HNX.out.1 g
          have HV : Hid (val (l.set q 1) = P / 2 ^ q / N * 2 ^ q) := Lib.hid (by rw [HSET.out, n1, Nat.pow_succ, Nat.add_mul, Nat.one_mul, Nat.mul_comm 2 Qk, Nat.mul_assoc, Nat.mul_comm 2 (2 ^ q)])
          have N2 := Lib.hid n2
          clear cc cs n1 n2
          go_wp2_with fail
          with_reducible refine CC.out.mono ?_
          rintro r' w' ⟨rfl, rfl⟩
          go_wp2_with fail
          with_reducible refine CS.out.mono ?_
          rintro r' w6 ⟨⟨v6, rfl, r6, o6⟩, hb6⟩
          have hq6 : w6.ownsRow w2.heap.size 5 1 (.slice (some ⟨w2.heap.size, 0, none⟩) L L) L (cN l) := HQ3.out.kept (grown_of_below hb6) (.inr (by simp [Value.ownBlock]))
          have hcq : w6.cell? ⟨w2.heap.size, q, none⟩ = some (.int .u8 ((l.getD q 0 : Nat) : Int)) := by rw [hq6.cellAt q (by omega), cN_at l q (by omega)]
          have hfq : w6.frozen? ⟨w2.heap.size, q, none⟩ = false := hq6.frozenAt q
          have hst := (hq6.stored q (.int .u8 1)).1
          rw [cN_set] at hst
          have HST := Lib.hid hst
          have hgt : ∀ b, v6.ownBlock = some b → b ≠ w2.heap.size := fun b hb => by have := o6 b hb; omega
          have HGT := Lib.hid hgt
          have hr6 : RowAt (w6.setCell ⟨w2.heap.size, q, none⟩ (.int .u8 1)).heap.size (w6.setCell ⟨w2.heap.size, q, none⟩ (.int .u8 1)) v6 (dg (P / 2 ^ q % N)) := by
            rw [N2.out]
            rcases r6 with h | ⟨b, off, cap', e1, hb, hc', hh⟩
            · exact .inl h
            · refine .inr ⟨b, off, cap', e1, by simpa using hb, hc', fun j hj => ?_⟩
              rw [← hh j hj]
              refine World.cell?_of_block (a := ⟨b, off + j, none⟩) (Below.heap_setCell w6 ⟨w2.heap.size, q, none⟩ _ b ?_)
              exact hgt b (by rw [e1]; rfl)
          have HR6 := Lib.hid hr6
          have HB6 := Lib.hid ((HB3.out.trans (hb6.mono (by omega))).setCell (p := ⟨w2.heap.size, q, none⟩) (Nat.le_refl _) (.int .u8 1))
          clear hst hr6 hgt o6 r6 hq6
          generalize l.getD q 0 = z0 at hcq
          go_wp2_with fail
          go_roundw
          case rel => exact ⟨q, (q : Int) - 1, l.set q 1, by omega, rfl, by omega, by simpa using hll, HST, HBS, HV, HR6, HGT, HB6⟩
          case measure => simp [intOf]
end Go.Proofs.Ytllgkkbdpabhjaa
