/- The text of a float as this program reads it: Parse at every string; no condition. -/
import Derived.Test.YtidmeodmkcomlaaGreatDoorLeaf
namespace Go.Proofs.YtidmeodmkcomlaaGreatDoor
open Go Go.Proofs Go.RowKit

theorem order_self_nan {d : Ieee.Datum} : d.order d = none ↔ d.isNaN = true := by
  cases d <;> simp [Ieee.Datum.order, Ieee.Datum.isNaN]
theorem order_self_eq {d : Ieee.Datum} (h : d.isNaN = false) : d.order d = some .eq := by
  cases d <;> simp_all [Ieee.Datum.order, Ieee.Datum.isNaN]

/-- The word is that of one that is none. -/
def isN (x : Nat) : Bool := (Ieee.double.read x).isNaN
def noneB : Nat := 9221120237041090561
/-- The word, or that of the one that is none. -/
def norm (x : Nat) : Nat := if isN x then noneB else x

theorem neq_self (x : Nat) : (Ieee.double.order x x != some .eq) = isN x := by
  unfold Ieee.Format.order isN
  cases h : (Ieee.double.read x).isNaN
  · rw [order_self_eq h]; rfl
  · rw [order_self_nan.2 h]; rfl

theorem enter_bits (x : Nat) (w : World) : (callFunc 149 #[.int .u64 (x : Int)]).run Tryz.prog w = .ok (.value (.float .f64 x)) w := by
  rw [run_callFunc_extern Tryz.func149 (by kernel_rfl) (by kernel_rfl) (by kernel_rfl) (e := Extern.MathFloatBits.float64frombits) (by kernel_rfl)]
  rfl
theorem enter_word (x : Nat) (w : World) : (callFunc 157 #[.float .f64 x]).run Tryz.prog w = .ok (.value (.int .u64 (x : Int))) w := by
  rw [run_callFunc_extern Tryz.func157 (by kernel_rfl) (by kernel_rfl) (by kernel_rfl) (e := Extern.MathFloatBits.float64bits) (by kernel_rfl)]
  rfl

theorem isNaN_any (x : Nat) (w : World) : Calls Tryz.prog 156 #[.float .f64 x] w fun e w' => e = .returned (.bool (isN x)) ∧ w = w' := by
  go_enter Tryz.func156, Tryz.ntmps156
  go_wp2
  go_ret
  exact ⟨by rw [← neq_self]; rfl, rfl⟩

theorem of_any (x : Nat) (w : World) : Calls Tryz.prog 148 #[.float .f64 x] w fun e w' => e = .returned (.int .u64 (norm x : Nat)) ∧ w = w' := by
  have k := enter_word
  have c := isNaN_any x
  unfold norm
  cases h : isN x
  · rw [h] at c
    clear h
    go_enter Tryz.func148, Tryz.ntmps148
    go_wp2_with (go_at_call 156; refine (c _).mono ?_; rintro e w' ⟨rfl, rfl⟩)
    go_ret
    exact ⟨rfl, rfl⟩
  · rw [h] at c
    clear h
    go_enter Tryz.func148, Tryz.ntmps148
    go_wp2_with (go_at_call 156; refine (c _).mono ?_; rintro e w' ⟨rfl, rfl⟩)
    go_ret
    exact ⟨rfl, rfl⟩

theorem ofBits_any (x : Nat) (w : World) : Calls Tryz.prog 143 #[.int .u64 (x : Int)] w fun e w' => e = .returned (.int .u64 (norm x : Nat)) ∧ w = w' := by
  have k := enter_bits
  go_enter Tryz.func143, Tryz.ntmps143
  go_wp2_with (go_at_call 148; refine (of_any _ _).mono ?_; rintro e w' ⟨rfl, rfl⟩)
  go_ret
  exact ⟨rfl, rfl⟩

def pre2 : ByteArray := { data := #[102, 39] }
/-- The string begins with the two signs that a float's text begins with. -/
def headB (s : ByteArray) : Bool := decide (2 ≤ s.size) && ((s.extract 0 2).toList == pre2.toList)

theorem has_any (s : ByteArray) (hs : s.size ≤ 9223372036854775807) (w : World) :
    Calls Tryz.prog 127 #[.string s, .string pre2] w fun e w' => e = .returned (.bool (headB s)) ∧ w = w' := by
  have hp : pre2.size = 2 := rfl
  unfold headB
  by_cases h2 : 2 ≤ s.size
  · have e : decide (2 ≤ s.size) = true := by simpa using h2
    rw [e, Bool.true_and]
    clear e
    go_enter Tryz.func127, Tryz.ntmps127
    go_wp2
    go_ret
    exact ⟨rfl, rfl⟩
  · have e : decide (2 ≤ s.size) = false := by simpa using h2
    rw [e, Bool.false_and]
    clear e
    go_enter Tryz.func127, Tryz.ntmps127
    go_wp2
    go_ret
    exact ⟨rfl, rfl⟩

theorem head_size {s : ByteArray} (h : headB s = true) : 2 ≤ s.size := by
  unfold headB at h
  simp at h
  exact h.1

theorem cutp_any (s : ByteArray) (hs : s.size ≤ 9223372036854775807) (w : World) :
    Calls Tryz.prog 142 #[.string s, .string pre2] w fun e w' => e = .returned (.tuple #[.string (if headB s then s.extract 2 s.size else s), .bool (headB s)]) ∧ w = w' := by
  have hp : pre2.size = 2 := rfl
  have c := has_any s hs
  have c1 : ∀ w, Calls Tryz.prog 147 #[.string s, .string pre2] w fun e w' => e = .returned (.tuple #[.string (if headB s then s.extract 2 s.size else s), .bool (headB s)]) ∧ w = w' := by
    intro w
    cases h : headB s
    · rw [h] at c
      clear h
      go_enter Tryz.func147, Tryz.ntmps147
      go_wp2_with (go_at_call 127; refine (c _).mono ?_; rintro e w' ⟨rfl, rfl⟩)
      go_ret2
      exact ⟨rfl, rfl⟩
    · rw [h] at c
      have h2 := head_size h
      clear h
      go_enter Tryz.func147, Tryz.ntmps147
      go_wp2_with (go_at_call 127; refine (c _).mono ?_; rintro e w' ⟨rfl, rfl⟩)
      go_ret2
      exact ⟨rfl, rfl⟩
  clear c hp
  generalize (if headB s = true then s.extract 2 s.size else s) = r at c1 ⊢
  generalize headB s = b at c1 ⊢
  go_enter Tryz.func142, Tryz.ntmps142
  go_wp2_with (go_at_call 147; refine (c1 _).mono ?_; rintro e w' ⟨rfl, rfl⟩)
  go_ret2
  exact ⟨rfl, rfl⟩

def digs : ByteArray := { data := #[48, 49, 50, 51, 52, 53, 54, 55, 56, 57, 97, 98, 99, 100, 101, 102] }
/-- What a sign is worth; -1 of one that is no digit. -/
def hexd (c : UInt8) : Int := firstIdx digs c
def hexZ (n : Nat) : Int := if 48 ≤ n ∧ n ≤ 57 then (n : Int) - 48 else if 97 ≤ n ∧ n ≤ 102 then (n : Int) - 87 else -1
theorem hexd_all : ∀ n, n < 256 → hexd (UInt8.ofNat n) = hexZ n := by decide +kernel
theorem hexd_val (c : UInt8) : hexd c = hexZ c.toNat := by
  have := hexd_all c.toNat c.toNat_lt
  simpa using this
theorem hexd_bounds (c : UInt8) : -1 ≤ hexd c ∧ hexd c ≤ 15 := by
  rw [hexd_val]
  unfold hexZ
  split
  · omega
  · split <;> omega

theorem idx_any (c : UInt8) (w : World) : Calls Tryz.prog 98 #[.string digs, .int .u8 (c.toNat : Int)] w fun e w' => e = .returned (.int .i64 (hexd c)) ∧ w = w' := by
  have k : ∀ w, (callFunc 141 #[.string digs, .int .u8 (c.toNat : Int)]).run Tryz.prog w = .ok (.value (.int .i64 (hexd c))) w := by
    intro w
    rw [run_callFunc_extern Tryz.func141 (by kernel_rfl) (by kernel_rfl) (by kernel_rfl) (e := Extern.BytealgIndexByte.indexByte) (by kernel_rfl), run_indexByte_string]
    simp [Result.andThen, hexd]
  generalize hexd c = d at k ⊢
  generalize digs = D at k ⊢
  have c1 : ∀ w, Calls Tryz.prog 126 #[.string D, .int .u8 (c.toNat : Int)] w fun e w' => e = .returned (.int .i64 d) ∧ w = w' := by
    intro w
    go_enter Tryz.func126, Tryz.ntmps126
    go_wp2
    go_ret
    exact ⟨rfl, rfl⟩
  clear k
  go_enter Tryz.func98, Tryz.ntmps98
  go_wp2_with (go_at_call 126; refine (c1 _).mono ?_; rintro e w' ⟨rfl, rfl⟩)
  go_ret
  exact ⟨rfl, rfl⟩

/-- What digits tell behind a number. -/
def hexv : List UInt8 → Nat → Option Nat
  | [], n => some n
  | c :: r, n => if hexd c < 0 then none else hexv r (n * 16 + (hexd c).toNat)

theorem or_digit (n d : Nat) (hn : n < 1152921504606846976) (hd : d < 16) : bits .or .u64 ((n * 16 : Nat) : Int) (d : Int) = ((n * 16 + d : Nat) : Int) := by
  have h := u64_or_nat (n * 16) d (by omega) (by omega)
  rw [h]
  have : n * 16 = n <<< 4 := by rw [Nat.shiftLeft_eq]
  rw [this, ← Nat.shiftLeft_add_eq_or_of_lt (by simpa using hd)]

theorem drop_cons (r : ByteArray) (k : Nat) (h : k < r.size) : r.data.toList.drop k = r[k] :: r.data.toList.drop (k + 1) := by
  rw [List.drop_eq_getElem_cons (by simpa using h)]; rfl

/-- What Parse tells of the sixteen signs. -/
def ParsePost (o : Option Nat) (w : World) (e : Ending) (w' : World) : Prop :=
  (match o with
  | some n => e = .returned (.tuple #[.int .u64 (norm n : Nat), .int .i64 0])
  | none => e = .returned (.tuple #[.int .u64 0, .int .i64 14])) ∧ w = w'

set_option maxHeartbeats 1000000 in
theorem parse_16 (s r : ByteArray) (hs : s.size ≤ 9223372036854775807) (hh : headB s = true) (hr : s.extract 2 s.size = r) (h16 : r.size = 16) (w : World) :
    Calls Tryz.prog 128 #[.string s] w (ParsePost (hexv r.data.toList 0) w) := by
  have c := cutp_any s hs
  rw [hh, if_pos rfl, hr] at c
  clear hr hh hs
  have hlen : r.size ≤ 16 ∧ 16 ≤ r.size := by omega
  go_enter Tryz.func128, Tryz.ntmps128
  go_wp2_with (go_at_call 142; refine (c _).mono ?_; rintro e w' ⟨rfl, rfl⟩)
  go_loop [6, 21] (fun b i => ∃ k n : Nat, k ≤ 16 ∧ i = .int .i64 k ∧ b = .int .u64 n ∧ n < 16 ^ k ∧ Hid (hexv r.data.toList 0 = hexv (r.data.toList.drop k) n)) (fun _ i => 16 - (intOf i).toNat)
  case atStart => exact ⟨0, 0, by omega, rfl, rfl, by decide, Lib.hid rfl⟩
  case round =>
    obtain ⟨k, n, hk, rfl, rfl, hn, hH⟩ := hrel
    by_cases hlt : k < 16
    · have hn15 : n < 1152921504606846976 := Nat.lt_of_lt_of_le hn (Nat.pow_le_pow_right (by omega) (by omega : k ≤ 15))
      have hsz : k < r.size := by omega
      have hd := drop_cons r k hsz
      have hb := hexd_bounds r[k]
      have ci := idx_any r[k]
      have hH2 := hH.out
      rw [hd, hexv] at hH2
      clear hd hH
      generalize hexd r[k] = d at ci hb hH2
      by_cases hneg : d < 0
      · rw [if_pos hneg] at hH2
        have HH := Lib.hid hH2
        clear hH2
        go_wp2_with (go_at_call 98; refine (ci _).mono ?_; rintro e w' ⟨rfl, rfl⟩)
        go_ret2
        unfold ParsePost
        rw [HH.out]
        exact ⟨rfl, rfl⟩
      · obtain ⟨m, rfl⟩ : ∃ m : Nat, d = m := ⟨d.toNat, by omega⟩
        rw [if_neg hneg, Int.toNat_natCast] at hH2
        have HH := Lib.hid hH2
        have ho := Lib.hid (or_digit n m hn15 (by omega))
        have hp : n * 16 + m < 16 ^ (k + 1) := by rw [Nat.pow_succ]; omega
        clear hH2 hn
        go_wp2_with (go_at_call 98; refine (ci _).mono ?_; rintro e w' ⟨rfl, rfl⟩)
        go_round
        case rel => exact ⟨k + 1, n * 16 + m, by omega, by go_num, by rw [show ((n : Int) * 16) = ((n * 16 : Nat) : Int) by omega, ho.out], hp, HH⟩
        case measure => simp [intOf]; omega
    · have hk16 : k = 16 := by omega
      have h0 : r.data.toList.drop k = [] := by simp [hk16]; exact Nat.le_of_eq h16
      have hH2 := hH.out
      rw [h0, hexv] at hH2
      have HH := Lib.hid hH2
      clear hH2 h0 hk16 hH
      go_wp2_with (go_at_call 143; refine (ofBits_any _ _).mono ?_; rintro e w' ⟨rfl, rfl⟩)
      go_ret2
      unfold ParsePost
      rw [HH.out]
      exact ⟨rfl, rfl⟩

/-- What a text tells: the bits of a float; none of another text. -/
def parseV (s : ByteArray) : Option Nat := if headB s = true ∧ s.size = 18 then hexv (s.data.toList.drop 2) 0 else none

theorem parse_any (s : ByteArray) (hs : s.size ≤ 9223372036854775807) (w : World) : Calls Tryz.prog 128 #[.string s] w (ParsePost (parseV s) w) := by
  unfold parseV
  by_cases hh : headB s = true
  · have h2 := head_size hh
    have hsz : (s.extract 2 s.size).size = s.size - 2 := by simp [ByteArray.size_extract]
    by_cases h18 : s.size = 18
    · rw [if_pos ⟨hh, h18⟩]
      have := parse_16 s _ hs hh rfl (by rw [hsz, h18]) w
      have e : (s.extract 2 s.size).data.toList = s.data.toList.drop 2 := by
        rw [ByteArray.data_extract, Array.toList_extract, List.extract_eq_drop_take']
        have : s.size = s.data.toList.length := by simp
        rw [this, List.take_length]
      rwa [e] at this
    · rw [if_neg (fun h => h18 h.2)]
      have c := cutp_any s hs
      rw [hh, if_pos rfl] at c
      have hne : (((s.extract 2 s.size).size : Int) != 16) = true := by rw [hsz]; simp; omega
      generalize s.extract 2 s.size = r at c hne
      clear hh hs h18 hsz h2
      go_enter Tryz.func128, Tryz.ntmps128
      go_wp2_with (go_at_call 142; refine (c _).mono ?_; rintro e w' ⟨rfl, rfl⟩)
      go_ret2
      exact ⟨rfl, rfl⟩
  · rw [if_neg (fun h => hh h.1)]
    have c := cutp_any s hs
    have hf : headB s = false := by simpa using hh
    rw [hf, if_neg (by decide)] at c
    clear hh hs hf
    go_enter Tryz.func128, Tryz.ntmps128
    go_wp2_with (go_at_call 142; refine (c _).mono ?_; rintro e w' ⟨rfl, rfl⟩)
    go_ret2
    exact ⟨rfl, rfl⟩
end Go.Proofs.YtidmeodmkcomlaaGreatDoor
