/- The text of a float as this program reads it: Parse at every string; no condition. Five functions of the library as this program has them (unicode/utf8: -/
import Derived.Test.YtjbdgjbmbohfmaaGreatDoorK02
import Derived.Shelf.Small.Utf8
import Derived.Shelf.Small.Strs
import Derived.Shelf.LaysC
import Derived.Shelf.Strconv.ParseIntPublic10
import Derived.Shelf.Strconv.ErrVarParseInt
import Derived.Shelf.Lays7
namespace Go.Proofs.YtjbdgjbmbohfmaaGreatDoor
open Go Go.Proofs Go.RowKit
theorem order_self_nan {d : Ieee.Datum} : d.order d = none ↔ d.isNaN = true := by
 cases d <;> simp [Ieee.Datum.order, Ieee.Datum.isNaN]
theorem order_self_eq {d : Ieee.Datum} (h : d.isNaN = false) : d.order d = some .eq := by
 cases d <;> simp_all [Ieee.Datum.order, Ieee.Datum.isNaN]

/-- The word is that of one that is none. -/
def isN (x : Nat) : Bool := (Ieee.double.read x).isNaN
def noneB : Nat := 9221120237041090561
/-- The word, or that of the one that is none. -/
def norm (x : Nat) : Nat := if isN x then noneB else x

theorem neq_self (x : Nat) : (Ieee.double.order x x != some .eq) = isN x := by
 unfold Ieee.Format.order isN
 cases h : (Ieee.double.read x).isNaN
 ·rw [order_self_eq h]; rfl
 ·rw [order_self_nan.2 h]; rfl

theorem enter_bits (x : Nat) (w : World) : (callFunc 223 #[.int .u64 (x : Int)]).run Tryz.prog w = .ok (.value (.float .f64 x)) w := by
 rw [run_callFunc_extern Tryz.func223 (by kernel_rfl) (by kernel_rfl) (by kernel_rfl) (e := Extern.MathFloatBits.float64frombits) (by kernel_rfl)]
 rfl
theorem enter_word (x : Nat) (w : World) : (callFunc 262 #[.float .f64 x]).run Tryz.prog w = .ok (.value (.int .u64 (x : Int))) w := by
 rw [run_callFunc_extern Tryz.func262 (by kernel_rfl) (by kernel_rfl) (by kernel_rfl) (e := Extern.MathFloatBits.float64bits) (by kernel_rfl)]
 rfl

theorem isNaN_any (x : Nat) (w : World) : Calls Tryz.prog 261 #[.float .f64 x] w fun e w' => e = .returned (.bool (isN x)) ∧ w = w' := by
 go_enter Tryz.func261, Tryz.ntmps261
 go_wp2
 go_ret
 exact ⟨by rw [← neq_self]; rfl, rfl⟩

theorem of_any (x : Nat) (w : World) : Calls Tryz.prog 222 #[.float .f64 x] w fun e w' => e = .returned (.int .u64 (norm x : Nat)) ∧ w = w' := by
 have k := enter_word
 have c := isNaN_any x
 unfold norm
 cases h : isN x
 ·rw [h] at c
  clear h
  go_enter Tryz.func222, Tryz.ntmps222
  go_wp2_with (go_at_call 261; refine (c _).mono ?_; rintro e w' ⟨rfl, rfl⟩)
  go_ret
  exact ⟨rfl, rfl⟩
 ·rw [h] at c
  clear h
  go_enter Tryz.func222, Tryz.ntmps222
  go_wp2_with (go_at_call 261; refine (c _).mono ?_; rintro e w' ⟨rfl, rfl⟩)
  go_ret
  exact ⟨rfl, rfl⟩

theorem ofBits_any (x : Nat) (w : World) : Calls Tryz.prog 176 #[.int .u64 (x : Int)] w fun e w' => e = .returned (.int .u64 (norm x : Nat)) ∧ w = w' := by
 have k := enter_bits
 go_enter Tryz.func176, Tryz.ntmps176
 go_wp2_with (go_at_call 222; refine (of_any _ _).mono ?_; rintro e w' ⟨rfl, rfl⟩)
 go_ret
 exact ⟨rfl, rfl⟩

def pre2 : ByteArray := { data := #[102, 39] }
/-- The string begins with the two signs that a float's text begins with. -/
def headB (s : ByteArray) : Bool := decide (2 ≤ s.size) && ((s.extract 0 2).toList == pre2.toList)

theorem has_any (s : ByteArray) (hs : s.size ≤ 9223372036854775807) (w : World) :
 Calls Tryz.prog 236 #[.string s, .string pre2] w fun e w' => e = .returned (.bool (headB s)) ∧ w = w' := by
 have hp : pre2.size = 2 := rfl
 unfold headB
 by_cases h2 : 2 ≤ s.size
 ·have e : decide (2 ≤ s.size) = true := by simpa using h2
  rw [e, Bool.true_and]
  clear e
  go_enter Tryz.func236, Tryz.ntmps236
  go_wp2
  go_ret
  exact ⟨rfl, rfl⟩
 ·have e : decide (2 ≤ s.size) = false := by simpa using h2
  rw [e, Bool.false_and]
  clear e
  go_enter Tryz.func236, Tryz.ntmps236
  go_wp2
  go_ret
  exact ⟨rfl, rfl⟩

theorem head_size {s : ByteArray} (h : headB s = true) : 2 ≤ s.size := by
 unfold headB at h
 simp at h
 exact h.1

theorem cutp_any (s : ByteArray) (hs : s.size ≤ 9223372036854775807) (w : World) :
 Calls Tryz.prog 280 #[.string s, .string pre2] w fun e w' => e = .returned (.tuple #[.string (if headB s then s.extract 2 s.size else s), .bool (headB s)]) ∧ w = w' := by
 have hp : pre2.size = 2 := rfl
 have c := has_any s hs
 have c1 : ∀ w, Calls Tryz.prog 297 #[.string s, .string pre2] w fun e w' => e = .returned (.tuple #[.string (if headB s then s.extract 2 s.size else s), .bool (headB s)]) ∧ w = w' := by
  intro w
  cases h : headB s
  ·rw [h] at c
   clear h
   go_enter Tryz.func297, Tryz.ntmps297
   go_wp2_with (go_at_call 236; refine (c _).mono ?_; rintro e w' ⟨rfl, rfl⟩)
   go_ret2
   exact ⟨rfl, rfl⟩
  ·rw [h] at c
   have h2 := head_size h
   clear h
   go_enter Tryz.func297, Tryz.ntmps297
   go_wp2_with (go_at_call 236; refine (c _).mono ?_; rintro e w' ⟨rfl, rfl⟩)
   go_ret2
   exact ⟨rfl, rfl⟩
 clear c hp
 generalize (if headB s = true then s.extract 2 s.size else s) = r at c1 ⊢
 generalize headB s = b at c1 ⊢
 go_enter Tryz.func280, Tryz.ntmps280
 go_wp2_with (go_at_call 297; refine (c1 _).mono ?_; rintro e w' ⟨rfl, rfl⟩)
 go_ret2
 exact ⟨rfl, rfl⟩

def digs : ByteArray := { data := #[48, 49, 50, 51, 52, 53, 54, 55, 56, 57, 97, 98, 99, 100, 101, 102] }
/-- What a sign is worth; -1 of one that is no digit. -/
def hexd (c : UInt8) : Int := firstIdx digs c
def hexZ (n : Nat) : Int := if 48 ≤ n ∧ n ≤ 57 then (n : Int) - 48 else if 97 ≤ n ∧ n ≤ 102 then (n : Int) - 87 else -1
theorem hexd_all : ∀ n, n < 256 → hexd (UInt8.ofNat n) = hexZ n := by decide +kernel
theorem hexd_val (c : UInt8) : hexd c = hexZ c.toNat := by
 have := hexd_all c.toNat c.toNat_lt
 simpa using this
theorem hexd_bounds (c : UInt8) : -1 ≤ hexd c ∧ hexd c ≤ 15 := by
 rw [hexd_val]
 unfold hexZ
 split
 ·omega
 ·split <;> omega

theorem idx_any (c : UInt8) (w : World) : Calls Tryz.prog 194 #[.string digs, .int .u8 (c.toNat : Int)] w fun e w' => e = .returned (.int .i64 (hexd c)) ∧ w = w' := by
 have k : ∀ w, (callFunc 279 #[.string digs, .int .u8 (c.toNat : Int)]).run Tryz.prog w = .ok (.value (.int .i64 (hexd c))) w := by
  intro w
  rw [run_callFunc_extern Tryz.func279 (by kernel_rfl) (by kernel_rfl) (by kernel_rfl) (e := Extern.BytealgIndexByte.indexByte) (by kernel_rfl), run_indexByte_string]
  simp [Result.andThen, hexd]
 generalize hexd c = d at k ⊢
 generalize digs = D at k ⊢
 have c1 : ∀ w, Calls Tryz.prog 235 #[.string D, .int .u8 (c.toNat : Int)] w fun e w' => e = .returned (.int .i64 d) ∧ w = w' := by
  intro w
  go_enter Tryz.func235, Tryz.ntmps235
  go_wp2
  go_ret
  exact ⟨rfl, rfl⟩
 clear k
 go_enter Tryz.func194, Tryz.ntmps194
 go_wp2_with (go_at_call 235; refine (c1 _).mono ?_; rintro e w' ⟨rfl, rfl⟩)
 go_ret
 exact ⟨rfl, rfl⟩

/-- What digits tell behind a number. -/
def hexv : List UInt8 → Nat → Option Nat
 | [], n => some n
 | c :: r, n => if hexd c < 0 then none else hexv r (n * 16 + (hexd c).toNat)

theorem or_digit (n d : Nat) (hn : n < 1152921504606846976) (hd : d < 16) : bits .or .u64 ((n * 16 : Nat) : Int) (d : Int) = ((n * 16 + d : Nat) : Int) := by
 have h := u64_or_nat (n * 16) d (by omega) (by omega)
 rw [h]
 have : n * 16 = n <<< 4 := by rw [Nat.shiftLeft_eq]
 rw [this, ← Nat.shiftLeft_add_eq_or_of_lt (by simpa using hd)]

theorem drop_cons (r : ByteArray) (k : Nat) (h : k < r.size) : r.data.toList.drop k = r[k] :: r.data.toList.drop (k + 1) := by
 rw [List.drop_eq_getElem_cons (by simpa using h)]; rfl

/-- What Parse tells of the sixteen signs. -/
def ParsePost (o : Option Nat) (w : World) (e : Ending) (w' : World) : Prop :=
 (match o with
 | some n => e = .returned (.tuple #[.int .u64 (norm n : Nat), .int .i64 0])
 | none => e = .returned (.tuple #[.int .u64 0, .int .i64 14])) ∧ w = w'

set_option maxHeartbeats 1000000 in
theorem parse_16 (s r : ByteArray) (hs : s.size ≤ 9223372036854775807) (hh : headB s = true) (hr : s.extract 2 s.size = r) (h16 : r.size = 16) (w : World) :
 Calls Tryz.prog 237 #[.string s] w (ParsePost (hexv r.data.toList 0) w) := by
 have c := cutp_any s hs
 rw [hh, if_pos rfl, hr] at c
 clear hr hh hs
 have hlen : r.size ≤ 16 ∧ 16 ≤ r.size := by omega
 go_enter Tryz.func237, Tryz.ntmps237
 go_wp2_with (go_at_call 280; refine (c _).mono ?_; rintro e w' ⟨rfl, rfl⟩)
 go_loop [6, 21] (fun b i => ∃ k n : Nat, k ≤ 16 ∧ i = .int .i64 k ∧ b = .int .u64 n ∧ n < 16 ^ k ∧ Hid (hexv r.data.toList 0 = hexv (r.data.toList.drop k) n)) (fun _ i => 16 - (intOf i).toNat)
 case atStart => exact ⟨0, 0, by omega, rfl, rfl, by decide, Lib.hid rfl⟩
 case round =>
  obtain ⟨k, n, hk, rfl, rfl, hn, hH⟩ := hrel
  by_cases hlt : k < 16
  ·have hn15 : n < 1152921504606846976 := Nat.lt_of_lt_of_le hn (Nat.pow_le_pow_right (by omega) (by omega : k ≤ 15))
   have hsz : k < r.size := by omega
   have hd := drop_cons r k hsz
   have hb := hexd_bounds r[k]
   have ci := idx_any r[k]
   have hH2 := hH.out
   rw [hd, hexv] at hH2
   clear hd hH
   generalize hexd r[k] = d at ci hb hH2
   by_cases hneg : d < 0
   ·rw [if_pos hneg] at hH2
    have HH := Lib.hid hH2
    clear hH2
    go_wp2_with (go_at_call 194; refine (ci _).mono ?_; rintro e w' ⟨rfl, rfl⟩)
    go_ret2
    unfold ParsePost
    rw [HH.out]
    exact ⟨rfl, rfl⟩
   ·obtain ⟨m, rfl⟩ : ∃ m : Nat, d = m := ⟨d.toNat, by omega⟩
    rw [if_neg hneg, Int.toNat_natCast] at hH2
    have HH := Lib.hid hH2
    have ho := Lib.hid (or_digit n m hn15 (by omega))
    have hp : n * 16 + m < 16 ^ (k + 1) := by rw [Nat.pow_succ]; omega
    clear hH2 hn
    go_wp2_with (go_at_call 194; refine (ci _).mono ?_; rintro e w' ⟨rfl, rfl⟩)
    go_round
    case rel => exact ⟨k + 1, n * 16 + m, by omega, by go_num, by rw [show ((n : Int) * 16) = ((n * 16 : Nat) : Int) by omega, ho.out], hp, HH⟩
    case measure => simp [intOf]; omega
  ·have hk16 : k = 16 := by omega
   have h0 : r.data.toList.drop k = [] := by simp [hk16]; exact Nat.le_of_eq h16
   have hH2 := hH.out
   rw [h0, hexv] at hH2
   have HH := Lib.hid hH2
   clear hH2 h0 hk16 hH
   go_wp2_with (go_at_call 176; refine (ofBits_any _ _).mono ?_; rintro e w' ⟨rfl, rfl⟩)
   go_ret2
   unfold ParsePost
   rw [HH.out]
   exact ⟨rfl, rfl⟩

/-- What a text tells: the bits of a float; none of another text. -/
def parseV (s : ByteArray) : Option Nat := if headB s = true ∧ s.size = 18 then hexv (s.data.toList.drop 2) 0 else none

theorem parse_any (s : ByteArray) (hs : s.size ≤ 9223372036854775807) (w : World) : Calls Tryz.prog 237 #[.string s] w (ParsePost (parseV s) w) := by
 unfold parseV
 by_cases hh : headB s = true
 ·have h2 := head_size hh
  have hsz : (s.extract 2 s.size).size = s.size - 2 := by simp [ByteArray.size_extract]
  by_cases h18 : s.size = 18
  ·rw [if_pos ⟨hh, h18⟩]
   have := parse_16 s _ hs hh rfl (by rw [hsz, h18]) w
   have e : (s.extract 2 s.size).data.toList = s.data.toList.drop 2 := by
    rw [ByteArray.data_extract, Array.toList_extract, List.extract_eq_drop_take']
    have : s.size = s.data.toList.length := by simp
    rw [this, List.take_length]
   rwa [e] at this
  ·rw [if_neg (fun h => h18 h.2)]
   have c := cutp_any s hs
   rw [hh, if_pos rfl] at c
   have hne : (((s.extract 2 s.size).size : Int) != 16) = true := by rw [hsz]; simp; omega
   generalize s.extract 2 s.size = r at c hne
   clear hh hs h18 hsz h2
   go_enter Tryz.func237, Tryz.ntmps237
   go_wp2_with (go_at_call 280; refine (c _).mono ?_; rintro e w' ⟨rfl, rfl⟩)
   go_ret2
   exact ⟨rfl, rfl⟩
 ·rw [if_neg (fun h => hh h.1)]
  have c := cutp_any s hs
  have hf : headB s = false := by simpa using hh
  rw [hf, if_neg (by decide)] at c
  clear hh hs hf
  go_enter Tryz.func237, Tryz.ntmps237
  go_wp2_with (go_at_call 280; refine (c _).mono ?_; rintro e w' ⟨rfl, rfl⟩)
  go_ret2
  exact ⟨rfl, rfl⟩
end Go.Proofs.YtjbdgjbmbohfmaaGreatDoor
namespace Go.Proofs
open Go.Shelf
def Tryz.lays32_ren : Go.Shelf.Ren := ⟨fun | 32 => 234 | 49 => 278 | n => n, fun | 30 => 22 | 21 => 21 | 3 => 3 | 0 => 0 | 5 => 5 | 4 => 4 | 33 => 226 | 66 => 275 | 25 => 37 | 69 => 278 | 68 => 277 | n => n, fun | 2 => 2 | 3 => 3 | n => n⟩
theorem Tryz.lays32 : Go.Proofs.Lays7.n32 Tryz.prog Tryz.lays32_ren := {
 mixed := by kernel_rfl
 f32 := Tryz.func234.trans (congrArg some (by kernel_rfl))
 f49 := Tryz.func278.trans (congrArg some (by kernel_rfl))
 t0 := Tryz.underlying0
 a0 := Tryz.isAgg0
 z0 := Tryz.sizeOf0
 v0 := Tryz.zeroValue0
 i0 := by kernel_rfl
 t3 := Tryz.underlying3
 a3 := Tryz.isAgg3
 z3 := Tryz.sizeOf3
 v3 := Tryz.zeroValue3
 i3 := by kernel_rfl
 t4 := Tryz.underlying4
 a4 := Tryz.isAgg4
 z4 := Tryz.sizeOf4
 v4 := Tryz.zeroValue4
 i4 := by kernel_rfl
 t5 := Tryz.underlying5
 a5 := Tryz.isAgg5
 z5 := Tryz.sizeOf5
 v5 := Tryz.zeroValue5
 i5 := by kernel_rfl
 t21 := Tryz.underlying21
 a21 := Tryz.isAgg21
 z21 := Tryz.sizeOf21
 v21 := Tryz.zeroValue21
 i21 := by kernel_rfl
 t25 := Tryz.underlying37
 a25 := Tryz.isAgg37
 z25 := Tryz.sizeOf37
 v25 := Tryz.zeroValue37
 i25 := by kernel_rfl
 t30 := Tryz.underlying22
 a30 := Tryz.isAgg22
 z30 := Tryz.sizeOf22
 v30 := Tryz.zeroValue22
 i30 := by kernel_rfl
 t33 := Tryz.underlying226
 a33 := Tryz.isAgg226
 z33 := Tryz.sizeOf226
 v33 := Tryz.zeroValue226
 i33 := by kernel_rfl
 t66 := Tryz.underlying275
 a66 := Tryz.isAgg275
 z66 := Tryz.sizeOf275
 t68 := Tryz.underlying277
 a68 := Tryz.isAgg277
 z68 := Tryz.sizeOf277
 v68 := Tryz.zeroValue277
 i68 := by kernel_rfl
 t69 := Tryz.underlying278
 a69 := Tryz.isAgg278
 z69 := Tryz.sizeOf278
 v69 := Tryz.zeroValue278
 i69 := by kernel_rfl
 g2 := by kernel_rfl
 g3 := by kernel_rfl }
def Tryz.lays118_ren : Go.Shelf.Ren := ⟨fun | 118 => 193 | n => n, fun | 21 => 21 | 3 => 3 | 4 => 4 | n => n, fun | n => n⟩
theorem Tryz.lays118 : Go.Proofs.Lays.n118 Tryz.prog Tryz.lays118_ren := {
 mixed := by kernel_rfl
 f118 := Tryz.func193.trans (congrArg some (by kernel_rfl))
 t3 := Tryz.underlying3
 a3 := Tryz.isAgg3
 z3 := Tryz.sizeOf3
 v3 := Tryz.zeroValue3
 t4 := Tryz.underlying4
 a4 := Tryz.isAgg4
 z4 := Tryz.sizeOf4
 v4 := Tryz.zeroValue4
 t21 := Tryz.underlying21
 a21 := Tryz.isAgg21
 z21 := Tryz.sizeOf21
 v21 := Tryz.zeroValue21 }
def Tryz.lays137_ren : Go.Shelf.Ren := ⟨fun | 137 => 194 | 217 => 235 | 266 => 279 | n => n, fun | 9 => 9 | 5 => 5 | 3 => 3 | n => n, fun | n => n⟩
theorem Tryz.lays137 : Go.Proofs.Lays.n137 Tryz.prog Tryz.lays137_ren := {
 mixed := by kernel_rfl
 f137 := Tryz.func194.trans (congrArg some (by kernel_rfl))
 f217 := Tryz.func235.trans (congrArg some (by kernel_rfl))
 f266 := Tryz.func279.trans (congrArg some (by kernel_rfl))
 t3 := Tryz.underlying3
 a3 := Tryz.isAgg3
 z3 := Tryz.sizeOf3
 v3 := Tryz.zeroValue3
 t5 := Tryz.underlying5
 a5 := Tryz.isAgg5
 z5 := Tryz.sizeOf5
 v5 := Tryz.zeroValue5
 t9 := Tryz.underlying9
 a9 := Tryz.isAgg9
 z9 := Tryz.sizeOf9
 v9 := Tryz.zeroValue9 }
def Tryz.laysC174_ren : Go.Shelf.Ren := ⟨fun | 174 => 239 | 247 => 281 | 245 => 282 | 287 => 298 | 279 => 299 | 280 => 300 | 281 => 301 | 282 => 302 | 321 => 309 | 322 => 310 | 316 => 311 | 171 => 313 | 205 => 312 | 243 => 319 | 246 => 220 | 283 => 257 | 284 => 258 | 285 => 259 | 286 => 260 | 129 => 277 | 317 => 286 | 318 => 287 | 319 => 288 | 320 => 289 | 337 => 304 | 338 => 305 | n => n, fun | 9 => 9 | 3 => 3 | 2 => 2 | 75 => 232 | 85 => 233 | 4 => 4 | 167 => 279 | 5 => 5 | 53 => 58 | 175 => 280 | 46 => 37 | 168 => 282 | 37 => 22 | 0 => 0 | 210 => 290 | 21 => 21 | 127 => 297 | 145 => 300 | 143 => 298 | 171 => 242 | 173 => 245 | 212 => 267 | 51 => 259 | 20 => 20 | 213 => 268 | 232 => 293 | 233 => 294 | 80 => 187 | n => n, fun | 15 => 5 | 16 => 6 | 17 => 1 | 18 => 7 | 19 => 8 | n => n⟩
theorem Tryz.laysC174 : Go.Proofs.LaysC.n174 Tryz.prog Tryz.laysC174_ren := {
 mixed := by kernel_rfl
 f129 := Tryz.func277.trans (congrArg some (by kernel_rfl))
 f171 := Tryz.func313.trans (congrArg some (by kernel_rfl))
 f174 := Tryz.func239.trans (congrArg some (by kernel_rfl))
 f205 := Tryz.func312.trans (congrArg some (by kernel_rfl))
 f243 := Tryz.func319.trans (congrArg some (by kernel_rfl))
 f245 := Tryz.func282.trans (congrArg some (by kernel_rfl))
 f246 := Tryz.func220.trans (congrArg some (by kernel_rfl))
 f247 := Tryz.func281.trans (congrArg some (by kernel_rfl))
 f279 := Tryz.func299.trans (congrArg some (by kernel_rfl))
 f280 := Tryz.func300.trans (congrArg some (by kernel_rfl))
 f281 := Tryz.func301.trans (congrArg some (by kernel_rfl))
 f282 := Tryz.func302.trans (congrArg some (by kernel_rfl))
 f283 := Tryz.func257.trans (congrArg some (by kernel_rfl))
 f284 := Tryz.func258.trans (congrArg some (by kernel_rfl))
 f285 := Tryz.func259.trans (congrArg some (by kernel_rfl))
 f286 := Tryz.func260.trans (congrArg some (by kernel_rfl))
 f287 := Tryz.func298.trans (congrArg some (by kernel_rfl))
 f316 := Tryz.func311.trans (congrArg some (by kernel_rfl))
 f317 := Tryz.func286.trans (congrArg some (by kernel_rfl))
 f318 := Tryz.func287.trans (congrArg some (by kernel_rfl))
 f319 := Tryz.func288.trans (congrArg some (by kernel_rfl))
 f320 := Tryz.func289.trans (congrArg some (by kernel_rfl))
 f321 := Tryz.func309.trans (congrArg some (by kernel_rfl))
 f322 := Tryz.func310.trans (congrArg some (by kernel_rfl))
 f337 := Tryz.func304.trans (congrArg some (by kernel_rfl))
 f338 := Tryz.func305.trans (congrArg some (by kernel_rfl))
 t0 := Tryz.underlying0
 a0 := Tryz.isAgg0
 z0 := Tryz.sizeOf0
 v0 := Tryz.zeroValue0
 t2 := Tryz.underlying2
 a2 := Tryz.isAgg2
 z2 := Tryz.sizeOf2
 v2 := Tryz.zeroValue2
 t3 := Tryz.underlying3
 a3 := Tryz.isAgg3
 z3 := Tryz.sizeOf3
 v3 := Tryz.zeroValue3
 t4 := Tryz.underlying4
 a4 := Tryz.isAgg4
 z4 := Tryz.sizeOf4
 v4 := Tryz.zeroValue4
 t5 := Tryz.underlying5
 a5 := Tryz.isAgg5
 z5 := Tryz.sizeOf5
 v5 := Tryz.zeroValue5
 t9 := Tryz.underlying9
 a9 := Tryz.isAgg9
 z9 := Tryz.sizeOf9
 v9 := Tryz.zeroValue9
 t20 := Tryz.underlying20
 a20 := Tryz.isAgg20
 z20 := Tryz.sizeOf20
 v20 := Tryz.zeroValue20
 t21 := Tryz.underlying21
 a21 := Tryz.isAgg21
 z21 := Tryz.sizeOf21
 v21 := Tryz.zeroValue21
 t37 := Tryz.underlying22
 a37 := Tryz.isAgg22
 z37 := Tryz.sizeOf22
 v37 := Tryz.zeroValue22
 t46 := Tryz.underlying37
 a46 := Tryz.isAgg37
 z46 := Tryz.sizeOf37
 v46 := Tryz.zeroValue37
 t51 := Tryz.underlying259
 a51 := Tryz.isAgg259
 z51 := Tryz.sizeOf259
 v51 := Tryz.zeroValue259
 t53 := Tryz.underlying58
 a53 := Tryz.isAgg58
 z53 := Tryz.sizeOf58
 v53 := Tryz.zeroValue58
 t75 := Tryz.underlying232
 a75 := Tryz.isAgg232
 z75 := Tryz.sizeOf232
 v75 := Tryz.zeroValue232
 t85 := Tryz.underlying233
 a85 := Tryz.isAgg233
 z85 := Tryz.sizeOf233
 v85 := Tryz.zeroValue233
 t127 := Tryz.underlying297
 a127 := Tryz.isAgg297
 z127 := Tryz.sizeOf297
 v127 := Tryz.zeroValue297
 t143 := Tryz.underlying298
 a143 := Tryz.isAgg298
 z143 := Tryz.sizeOf298
 v143 := Tryz.zeroValue298
 t145 := Tryz.underlying300
 a145 := Tryz.isAgg300
 z145 := Tryz.sizeOf300
 v145 := Tryz.zeroValue300
 t167 := Tryz.underlying279
 a167 := Tryz.isAgg279
 z167 := Tryz.sizeOf279
 v167 := Tryz.zeroValue279
 t168 := Tryz.underlying282
 a168 := Tryz.isAgg282
 z168 := Tryz.sizeOf282
 v168 := Tryz.zeroValue282
 t171 := Tryz.underlying242
 a171 := Tryz.isAgg242
 z171 := Tryz.sizeOf242
 v171 := Tryz.zeroValue242
 t173 := Tryz.underlying245
 a173 := Tryz.isAgg245
 z173 := Tryz.sizeOf245
 v173 := Tryz.zeroValue245
 t175 := Tryz.underlying280
 a175 := Tryz.isAgg280
 z175 := Tryz.sizeOf280
 v175 := Tryz.zeroValue280
 t210 := Tryz.underlying290
 a210 := Tryz.isAgg290
 z210 := Tryz.sizeOf290
 v210 := Tryz.zeroValue290
 t212 := Tryz.underlying267
 a212 := Tryz.isAgg267
 z212 := Tryz.sizeOf267
 v212 := Tryz.zeroValue267
 t213 := Tryz.underlying268
 a213 := Tryz.isAgg268
 z213 := Tryz.sizeOf268
 t232 := Tryz.underlying293
 a232 := Tryz.isAgg293
 z232 := Tryz.sizeOf293
 v232 := Tryz.zeroValue293
 t233 := Tryz.underlying294
 a233 := Tryz.isAgg294
 z233 := Tryz.sizeOf294
 v233 := Tryz.zeroValue294
 g15 := by kernel_rfl
 g16 := by kernel_rfl
 g17 := by kernel_rfl
 g18 := by kernel_rfl
 g19 := by kernel_rfl
 t80 := Tryz.underlying187
 a80 := Tryz.isAgg187
 z80 := Tryz.sizeOf187
 v80 := Tryz.zeroValue187
 i0 := by kernel_rfl
 i2 := by kernel_rfl
 i3 := by kernel_rfl
 i4 := by kernel_rfl
 i5 := by kernel_rfl
 i9 := by kernel_rfl
 i20 := by kernel_rfl
 i21 := by kernel_rfl
 i37 := by kernel_rfl
 i46 := by kernel_rfl
 i51 := by kernel_rfl
 i53 := by kernel_rfl
 i75 := by kernel_rfl
 i80 := by kernel_rfl
 i85 := by kernel_rfl
 i127 := by kernel_rfl
 i143 := by kernel_rfl
 i145 := by kernel_rfl
 i167 := by kernel_rfl
 i168 := by kernel_rfl
 i171 := by kernel_rfl
 i173 := by kernel_rfl
 i175 := by kernel_rfl
 i210 := by kernel_rfl
 i212 := by kernel_rfl
 i232 := by kernel_rfl
 i233 := by kernel_rfl
 m15 := by kernel_rfl
 m16 := by kernel_rfl
 m17 := by kernel_rfl
 m18 := by kernel_rfl
 m19 := by kernel_rfl
 c0 := by kernel_rfl
 c2 := by kernel_rfl
 c3 := by kernel_rfl
 c4 := by kernel_rfl
 c5 := by kernel_rfl
 c9 := by kernel_rfl
 c20 := by kernel_rfl
 c21 := by kernel_rfl
 c37 := by kernel_rfl
 c46 := by kernel_rfl
 c51 := by kernel_rfl
 c53 := by kernel_rfl
 c75 := by kernel_rfl
 c80 := by kernel_rfl
 c85 := by kernel_rfl
 c127 := by kernel_rfl
 c143 := by kernel_rfl
 c145 := by kernel_rfl
 c167 := by kernel_rfl
 c168 := by kernel_rfl
 c171 := by kernel_rfl
 c173 := by kernel_rfl
 c175 := by kernel_rfl
 c210 := by kernel_rfl
 c212 := by kernel_rfl
 c213 := by kernel_rfl
 c232 := by kernel_rfl
 c233 := by kernel_rfl }
theorem Tryz.utf8_RuneLen (r : Int) (w : World) :
 Calls Tryz.prog 193 #[.int .i32 r] w fun e w' => e = .returned (.int .i64 (Lib.runeLen r)) ∧ w' = w := Any.utf8_RuneLen Tryz.lays118 r w
open Go.RowKit in
theorem Tryz.strings_IndexByte (s : ByteArray) (c : Int) (w : World) :
 Calls Tryz.prog 194 #[.string s, .int .u8 c] w fun e w' => e = .returned (.int .i64 (Lib.indexByte s.data.toList c.toNat.toUInt8)) ∧ w' = w := Any.strings_IndexByte Tryz.lays137 s c w
open Go.RowKit in
theorem Tryz.strconv_ParseInt_10_at64_ok (s : ByteArray) (hmax : s.size ≤ 9223372036854775806) (v : Int) (h : Lib.parseIntB 64 s.data.toList = .ok v) (w : World) :
 Calls Tryz.prog 239 #[.string s, .int .i64 10, .int .i64 64] w fun e w' => e = .returned (.tuple #[.int .i64 v, .nilIface]) ∧ (w' = w ∨ ∃ t, w' = Lib.bytesWorld w 5 t) := Any.strconv_ParseInt_10_at64_ok Tryz.laysC174 s hmax v h w
end Go.Proofs
