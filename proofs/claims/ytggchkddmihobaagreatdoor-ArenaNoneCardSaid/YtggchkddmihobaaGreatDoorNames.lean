/- Words and names, and the floats of words: at every input; no condition. -/
import Derived.Test.YtggchkddmihobaaGreatDoorLeaf
namespace Go.Proofs.YtggchkddmihobaaGreatDoor
open Go Go.Proofs Go.RowKit

theorem order_self_nan {d : Ieee.Datum} : d.order d = none ↔ d.isNaN = true := by
  cases d <;> simp [Ieee.Datum.order, Ieee.Datum.isNaN]
theorem order_self_eq {d : Ieee.Datum} (h : d.isNaN = false) : d.order d = some .eq := by
  cases d <;> simp_all [Ieee.Datum.order, Ieee.Datum.isNaN]

/-- The word is that of one that is none. -/
def isN (x : Nat) : Bool := (Ieee.double.read x).isNaN
def noneB : Nat := 9221120237041090561
/-- The word, or that of the one that is none. -/
def norm (x : Nat) : Nat := if isN x then noneB else x

theorem neq_self (x : Nat) : (Ieee.double.order x x != some .eq) = isN x := by
  unfold Ieee.Format.order isN
  cases h : (Ieee.double.read x).isNaN
  · rw [order_self_eq h]; rfl
  · rw [order_self_nan.2 h]; rfl

theorem enter_bits (x : Nat) (w : World) : (callFunc 135 #[.int .u64 (x : Int)]).run Tryz.prog w = .ok (.value (.float .f64 x)) w := by
  rw [run_callFunc_extern Tryz.func135 (by kernel_rfl) (by kernel_rfl) (by kernel_rfl) (e := Extern.MathFloatBits.float64frombits) (by kernel_rfl)]
  rfl
theorem enter_word (x : Nat) (w : World) : (callFunc 140 #[.float .f64 x]).run Tryz.prog w = .ok (.value (.int .u64 (x : Int))) w := by
  rw [run_callFunc_extern Tryz.func140 (by kernel_rfl) (by kernel_rfl) (by kernel_rfl) (e := Extern.MathFloatBits.float64bits) (by kernel_rfl)]
  rfl

theorem isNaN_any (x : Nat) (w : World) : Calls Tryz.prog 139 #[.float .f64 x] w fun e w' => e = .returned (.bool (isN x)) ∧ w = w' := by
  go_enter Tryz.func139, Tryz.ntmps139
  go_wp2
  go_ret
  exact ⟨by rw [← neq_self]; rfl, rfl⟩

theorem of_any (x : Nat) (w : World) : Calls Tryz.prog 134 #[.float .f64 x] w fun e w' => e = .returned (.int .u64 (norm x : Nat)) ∧ w = w' := by
  have k := enter_word
  have c := isNaN_any x
  unfold norm
  cases h : isN x
  · rw [h] at c
    clear h
    go_enter Tryz.func134, Tryz.ntmps134
    go_wp2_with (go_at_call 139; refine (c _).mono ?_; rintro e w' ⟨rfl, rfl⟩)
    go_ret
    exact ⟨rfl, rfl⟩
  · rw [h] at c
    clear h
    go_enter Tryz.func134, Tryz.ntmps134
    go_wp2_with (go_at_call 139; refine (c _).mono ?_; rintro e w' ⟨rfl, rfl⟩)
    go_ret
    exact ⟨rfl, rfl⟩

theorem ofBits_any (x : Nat) (w : World) : Calls Tryz.prog 125 #[.int .u64 (x : Int)] w fun e w' => e = .returned (.int .u64 (norm x : Nat)) ∧ w = w' := by
  have k := enter_bits
  go_enter Tryz.func125, Tryz.ntmps125
  go_wp2_with (go_at_call 134; refine (of_any _ _).mono ?_; rintro e w' ⟨rfl, rfl⟩)
  go_ret
  exact ⟨rfl, rfl⟩

theorem retI {k : IntKind} {a b : Int} (h : a = b) : Ending.returned (.int k a) = .returned (.int k b) := by rw [h]
theorem tl_extract (s : ByteArray) (a b : Nat) : tl (s.extract a b) = ((tl s).take b).drop a := by
  unfold tl
  rw [ByteArray.data_extract, Array.toList_extract, List.extract_eq_drop_take', List.drop_take]
theorem tl_from (s : ByteArray) (a : Nat) : tl (s.extract a s.size) = (tl s).drop a := by
  rw [tl_extract s a s.size, ← tl_length s, List.take_length]

theorem toL (s : ByteArray) (l : List UInt8) : (s.toList == l) = decide (tl s = l) := by
  rw [ByteArray.toList_eq, Bool.eq_iff_iff, decide_eq_true_iff]; simp [tl]
theorem toL_ne {s : ByteArray} {l : List UInt8} (h : ¬ tl s = l) : (s.toList == l) = false := by rw [toL]; simpa using h
theorem toL_eq {s : ByteArray} {l : List UInt8} (h : tl s = l) : (s.toList == l) = true := by rw [toL]; simpa using h

theorem mk_tl (s : ByteArray) : s = ⟨(tl s).toArray⟩ := by simp [tl]

set_option maxHeartbeats 4000000 in
theorem isWord_any (s : ByteArray) (w : World) : Calls Tryz.prog 121 #[.string s] w fun e w' => e = .returned (.bool (isW (tl s))) ∧ w = w' := by
  by_cases hm : tl s ∈ words
  · have h1 : isW (tl s) = true := by simpa [isW] using hm
    rw [h1]
    clear h1
    have h0 := mk_tl s
    simp only [words, List.mem_cons, List.not_mem_nil, or_false] at hm
    rcases hm with hm | hm | hm | hm | hm | hm | hm | hm | hm | hm | hm | hm | hm | hm | hm | hm | hm | hm | hm | hm
    all_goals
      rw [hm] at h0
      subst h0
      clear hm
      go_enter Tryz.func121, Tryz.ntmps121
      go_wp2_with fail
      go_ret
      exact ⟨rfl, rfl⟩
  · have h1 : isW (tl s) = false := by simpa [isW] using hm
    rw [h1]
    clear h1
    simp only [words, List.mem_cons, List.not_mem_nil, or_false, not_or] at hm
    obtain ⟨m1, m2, m3, m4, m5, m6, m7, m8, m9, m10, m11, m12, m13, m14, m15, m16, m17, m18, m19, m20⟩ := hm
    have n1 := toL_ne m1
    have n2 := toL_ne m2
    have n3 := toL_ne m3
    have n4 := toL_ne m4
    have n5 := toL_ne m5
    have n6 := toL_ne m6
    have n7 := toL_ne m7
    have n8 := toL_ne m8
    have n9 := toL_ne m9
    have n10 := toL_ne m10
    have n11 := toL_ne m11
    have n12 := toL_ne m12
    have n13 := toL_ne m13
    have n14 := toL_ne m14
    have n15 := toL_ne m15
    have n16 := toL_ne m16
    have n17 := toL_ne m17
    have n18 := toL_ne m18
    have n19 := toL_ne m19
    have n20 := toL_ne m20
    clear m1 m2 m3 m4 m5 m6 m7 m8 m9 m10 m11 m12 m13 m14 m15 m16 m17 m18 m19 m20
    go_enter Tryz.func121, Tryz.ntmps121
    go_wp2_with fail
    go_ret
    exact ⟨rfl, rfl⟩

/-- The bytes are a name's. -/
def isName (l : List UInt8) : Bool := decide (l ≠ []) && decide (nameN l = l.length) && !isW l
theorem isName_any (s : ByteArray) (hs : s.size ≤ 9223372036854775807) (w : World) : Calls Tryz.prog 108 #[.string s] w fun e w' => e = .returned (.bool (isName (tl s))) ∧ Below w.heap.size w w' := by
  have c1 := name_any s hs
  have c2 := isWord_any s
  unfold isName
  have hlen := tl_length s
  by_cases h0 : s.size = 0
  · have he : tl s = [] := List.length_eq_zero_iff.1 (by omega)
    have hS : (s.toList == []) = true := by rw [empty_eq]; simpa using h0
    rw [he]
    clear c1 c2 he
    go_enter Tryz.func108, Tryz.ntmps108
    go_wp2_with fail
    go_ret
    exact ⟨rfl, Below.refl _ _⟩
  · have he : ¬ tl s = [] := fun h => h0 (by rw [h] at hlen; simpa using hlen.symm)
    have hS : (s.toList == []) = false := by rw [empty_eq]; simpa using h0
    have hl := spanN_le lowB wordB' (tl s)
    rw [hlen]
    rw [hlen] at hl
    have hd : decide (tl s ≠ []) = true := by simpa using he
    rw [hd, Bool.true_and]
    obtain ⟨n, hn⟩ : ∃ n, nameN (tl s) = n := ⟨_, rfl⟩
    rw [hn] at c1 ⊢
    obtain ⟨b, hb⟩ : ∃ b, isW (tl s) = b := ⟨_, rfl⟩
    rw [hb] at c2 ⊢
    clear hd he hb
    by_cases hz : n = s.size
    · subst hz
      clear hl hn
      go_enter Tryz.func108, Tryz.ntmps108
      go_wp2_with (first | (go_at_call 120; refine (c1 _).mono ?_; rintro e w' ⟨rfl, hb⟩) | (go_at_call 121; refine (c2 _).mono ?_; rintro e w' ⟨rfl, rfl⟩))
      go_ret
      exact ⟨ret_bool (by simp), hb⟩
    · clear hl hn
      go_enter Tryz.func108, Tryz.ntmps108
      go_wp2_with (first | (go_at_call 120; refine (c1 _).mono ?_; rintro e w' ⟨rfl, hb⟩) | (go_at_call 121; refine (c2 _).mono ?_; rintro e w' ⟨rfl, rfl⟩))
      go_ret
      exact ⟨ret_bool (by simp [hz]), hb⟩

end Go.Proofs.YtggchkddmihobaaGreatDoor
