/- The text of a float as this program reads it: Parse at every string; no condition. Five functions of the library as this program has them (unicode/utf8: -/
import Derived.Test.YtidmeodmkcomlaaGreatDoorK02
import Derived.Shelf.Small.Utf8
import Derived.Shelf.Small.Strs
import Derived.Shelf.LaysC
import Derived.Shelf.Strconv.ParseIntPublic10
import Derived.Shelf.Strconv.ErrVarParseInt
import Derived.Shelf.Lays7
set_option linter.unusedSimpArgs false
set_option linter.unusedVariables false
namespace Go.Proofs.YtidmeodmkcomlaaGreatDoor
open Go Go.Proofs Go.RowKit
set_option maxHeartbeats 1000000
theorem zn8 {d : Ieee.Datum} : d.order d = none ↔ d.isNaN = true := by
 cases d <;> simp [Ieee.Datum.order, Ieee.Datum.isNaN]
theorem zpo {d : Ieee.Datum} (h : d.isNaN = false) : d.order d = some .eq := by
 cases d <;> simp_all [Ieee.Datum.order, Ieee.Datum.isNaN]
def isN (x : Nat) : Bool := (Ieee.double.read x).isNaN
def noneB : Nat := 9221120237041090561
def norm (x : Nat) : Nat := if isN x then noneB else x
theorem zCf (x : Nat) : (Ieee.double.order x x != some .eq) = isN x := by
 unfold Ieee.Format.order isN;cases h : (Ieee.double.read x).isNaN
 · rw [zpo h]; rfl
 · rw [zn8.2 h]; rfl
theorem zwo (x : Nat) (w : World) : (callFunc 149 #[.int .u64 (x : Int)]).run Tryz.prog w = .ok (.value (.float .f64 x)) w := by
 rw [run_callFunc_extern Tryz.func149 (by kernel_rfl) (by kernel_rfl) (by kernel_rfl) (e := Extern.MathFloatBits.float64frombits) (by kernel_rfl)];rfl
theorem zv0 (x : Nat) (w : World) : (callFunc 157 #[.float .f64 x]).run Tryz.prog w = .ok (.value (.int .u64 (x : Int))) w := by
 rw [run_callFunc_extern Tryz.func157 (by kernel_rfl) (by kernel_rfl) (by kernel_rfl) (e := Extern.MathFloatBits.float64bits) (by kernel_rfl)];rfl
theorem zze (x : Nat) (w : World) : Calls Tryz.prog 156 #[.float .f64 x] w fun e w' => e = .returned (.bool (isN x)) ∧ w = w' := by
 go_enter Tryz.func156, Tryz.ntmps156
 go_wp2
 go_ret;exact ⟨by rw [← zCf]; rfl, rfl⟩
theorem zIm (x : Nat) (w : World) : Calls Tryz.prog 148 #[.float .f64 x] w fun e w' => e = .returned (.int .u64 (norm x : Nat)) ∧ w = w' := by
 have k := zv0;have c := zze x;unfold norm;cases h : isN x
 · rw [h] at c
   clear h;go_enter Tryz.func148, Tryz.ntmps148
   go_wp2_with (go_at_call 156; refine (c _).mono ?_; rintro e w' ⟨rfl, rfl⟩)
   go_ret;exact ⟨rfl, rfl⟩
 · rw [h] at c
   clear h;go_enter Tryz.func148, Tryz.ntmps148
   go_wp2_with (go_at_call 156; refine (c _).mono ?_; rintro e w' ⟨rfl, rfl⟩)
   go_ret;exact ⟨rfl, rfl⟩
theorem zvo (x : Nat) (w : World) : Calls Tryz.prog 143 #[.int .u64 (x : Int)] w fun e w' => e = .returned (.int .u64 (norm x : Nat)) ∧ w = w' := by
 have k := zwo;go_enter Tryz.func143, Tryz.ntmps143
 go_wp2_with (go_at_call 148; refine (zIm _ _).mono ?_; rintro e w' ⟨rfl, rfl⟩)
 go_ret;exact ⟨rfl, rfl⟩
def pre2 : ByteArray := { data := #[102, 39] }
def headB (s : ByteArray) : Bool := decide (2 ≤ s.size) && ((s.extract 0 2).toList == pre2.toList)
theorem zFh (s : ByteArray) (hs : s.size ≤ 9223372036854775807) (w : World) :
 Calls Tryz.prog 127 #[.string s, .string pre2] w fun e w' => e = .returned (.bool (headB s)) ∧ w = w' := by
 have hp : pre2.size = 2 := rfl;unfold headB;by_cases h2 : 2 ≤ s.size
 · have e : decide (2 ≤ s.size) = true := by simpa using h2
   rw [e, Bool.true_and];clear e;go_enter Tryz.func127, Tryz.ntmps127
   go_wp2
   go_ret;exact ⟨rfl, rfl⟩
 · have e : decide (2 ≤ s.size) = false := by simpa using h2
   rw [e, Bool.false_and];clear e;go_enter Tryz.func127, Tryz.ntmps127
   go_wp2
   go_ret;exact ⟨rfl, rfl⟩
theorem zo8 {s : ByteArray} (h : headB s = true) : 2 ≤ s.size := by
 unfold headB at h;simp at h
 exact h.1
theorem zlc (s : ByteArray) (hs : s.size ≤ 9223372036854775807) (w : World) :
 Calls Tryz.prog 142 #[.string s, .string pre2] w fun e w' => e = .returned (.tuple #[.string (if headB s then s.extract 2 s.size else s), .bool (headB s)]) ∧ w = w' := by
 have hp : pre2.size = 2 := rfl;have c := zFh s hs
 have c1 : ∀ w, Calls Tryz.prog 147 #[.string s, .string pre2] w fun e w' => e = .returned (.tuple #[.string (if headB s then s.extract 2 s.size else s), .bool (headB s)]) ∧ w = w' := by
  intro w;cases h : headB s
  · rw [h] at c
    clear h;go_enter Tryz.func147, Tryz.ntmps147
    go_wp2_with (go_at_call 127; refine (c _).mono ?_; rintro e w' ⟨rfl, rfl⟩)
    go_ret2
    exact ⟨rfl, rfl⟩
  · rw [h] at c
    have h2 := zo8 h;clear h;go_enter Tryz.func147, Tryz.ntmps147
    go_wp2_with (go_at_call 127; refine (c _).mono ?_; rintro e w' ⟨rfl, rfl⟩)
    go_ret2
    exact ⟨rfl, rfl⟩
 clear c hp;generalize (if headB s = true then s.extract 2 s.size else s) = r at c1 ⊢;generalize headB s = b at c1 ⊢;go_enter Tryz.func142, Tryz.ntmps142
 go_wp2_with (go_at_call 147; refine (c1 _).mono ?_; rintro e w' ⟨rfl, rfl⟩)
 go_ret2
 exact ⟨rfl, rfl⟩
def digs : ByteArray := { data := #[48, 49, 50, 51, 52, 53, 54, 55, 56, 57, 97, 98, 99, 100, 101, 102] }
def hexd (c : UInt8) : Int := firstIdx digs c
def hexZ (n : Nat) : Int := if 48 ≤ n ∧ n ≤ 57 then (n : Int) - 48 else if 97 ≤ n ∧ n ≤ 102 then (n : Int) - 87 else -1
theorem zE2 : ∀ n, n < 256 → hexd (UInt8.ofNat n) = hexZ n := by decide +kernel
theorem zre (c : UInt8) : hexd c = hexZ c.toNat := by
 have := zE2 c.toNat c.toNat_lt;simpa using this
theorem zse (c : UInt8) : -1 ≤ hexd c ∧ hexd c ≤ 15 := by
 rw [zre];unfold hexZ;split
 · omega
 · split <;> omega
theorem zFo (c : UInt8) (w : World) : Calls Tryz.prog 98 #[.string digs, .int .u8 (c.toNat : Int)] w fun e w' => e = .returned (.int .i64 (hexd c)) ∧ w = w' := by
 have k : ∀ w, (callFunc 141 #[.string digs, .int .u8 (c.toNat : Int)]).run Tryz.prog w = .ok (.value (.int .i64 (hexd c))) w := by
  intro w;rw [run_callFunc_extern Tryz.func141 (by kernel_rfl) (by kernel_rfl) (by kernel_rfl) (e := Extern.BytealgIndexByte.indexByte) (by kernel_rfl), run_indexByte_string];simp [Result.andThen, hexd]
 generalize hexd c = d at k ⊢;generalize digs = D at k ⊢
 have c1 : ∀ w, Calls Tryz.prog 126 #[.string D, .int .u8 (c.toNat : Int)] w fun e w' => e = .returned (.int .i64 d) ∧ w = w' := by
  intro w;go_enter Tryz.func126, Tryz.ntmps126
  go_wp2
  go_ret;exact ⟨rfl, rfl⟩
 clear k;go_enter Tryz.func98, Tryz.ntmps98
 go_wp2_with (go_at_call 126; refine (c1 _).mono ?_; rintro e w' ⟨rfl, rfl⟩)
 go_ret;exact ⟨rfl, rfl⟩
def hexv : List UInt8 → Nat → Option Nat
 | [], n => some n
 | c :: r, n => if hexd c < 0 then none else hexv r (n * 16 + (hexd c).toNat)
theorem zEf (n d : Nat) (hn : n < 1152921504606846976) (hd : d < 16) : bits .or .u64 ((n * 16 : Nat) : Int) (d : Int) = ((n * 16 + d : Nat) : Int) := by
 have h := u64_or_nat (n * 16) d (by omega) (by omega);rw [h];have : n * 16 = n <<< 4 := by rw [Nat.shiftLeft_eq]
 rw [this, ← Nat.shiftLeft_add_eq_or_of_lt (by simpa using hd)]
theorem zz7 (r : ByteArray) (k : Nat) (h : k < r.size) : r.data.toList.drop k = r[k] :: r.data.toList.drop (k + 1) := by
 rw [List.drop_eq_getElem_cons (by simpa using h)]; rfl
def zf1 (o : Option Nat) (w : World) (e : Ending) (w' : World) : Prop :=
 (match o with
 | some n => e = .returned (.tuple #[.int .u64 (norm n : Nat), .int .i64 0])
 | none => e = .returned (.tuple #[.int .u64 0, .int .i64 14])) ∧ w = w'
theorem zCh (s r : ByteArray) (hs : s.size ≤ 9223372036854775807) (hh : headB s = true) (hr : s.extract 2 s.size = r) (h16 : r.size = 16) (w : World) :
 Calls Tryz.prog 128 #[.string s] w (zf1 (hexv r.data.toList 0) w) := by
 have c := zlc s hs;rw [hh, if_pos rfl, hr] at c;clear hr hh hs;have hlen : r.size ≤ 16 ∧ 16 ≤ r.size := by omega
 go_enter Tryz.func128, Tryz.ntmps128
 go_wp2_with (go_at_call 142; refine (c _).mono ?_; rintro e w' ⟨rfl, rfl⟩)
 go_loop [6, 21] (fun b i => ∃ k n : Nat, k ≤ 16 ∧ i = .int .i64 k ∧ b = .int .u64 n ∧ n < 16 ^ k ∧ Hid (hexv r.data.toList 0 = hexv (r.data.toList.drop k) n)) (fun _ i => 16 - (intOf i).toNat)
 case atStart => exact ⟨0, 0, by omega, rfl, rfl, by decide, zJv rfl⟩
 case round =>
  obtain ⟨k, n, hk, rfl, rfl, hn, hH⟩ := hrel;by_cases hlt : k < 16
  · have hn15 : n < 1152921504606846976 := zJy hn (Nat.pow_le_pow_right (by omega) (by omega : k ≤ 15))
    have hsz : k < r.size := by omega
    have hd := zz7 r k hsz;have hb := zse r[k];have ci := zFo r[k];have hH2 := hH.out;rw [hd, hexv] at hH2;clear hd hH;generalize hexd r[k] = d at ci hb hH2;by_cases hneg : d < 0
    · rw [if_pos hneg] at hH2
      have HH := zJv hH2;clear hH2;go_wp2_with (go_at_call 98; refine (ci _).mono ?_; rintro e w' ⟨rfl, rfl⟩)
      go_ret2
      unfold zf1;rw [HH.out];exact ⟨rfl, rfl⟩
    · obtain ⟨m, rfl⟩ : ∃ m : Nat, d = m := ⟨d.toNat, by omega⟩
      rw [if_neg hneg, Int.toNat_natCast] at hH2;have HH := zJv hH2;have ho := zJv (zEf n m hn15 (by omega));have hp : n * 16 + m < 16 ^ (k + 1) := by rw [Nat.pow_succ]; omega
      clear hH2 hn;go_wp2_with (go_at_call 98; refine (ci _).mono ?_; rintro e w' ⟨rfl, rfl⟩)
      go_round
      case rel => exact ⟨k + 1, n * 16 + m, by omega, by go_num, by rw [show ((n : Int) * 16) = ((n * 16 : Nat) : Int) by omega, ho.out], hp, HH⟩
      case measure => simp [intOf]; omega
  · have hk16 : k = 16 := by omega
    have h0 : r.data.toList.drop k = [] := by simp [hk16]; exact Nat.le_of_eq h16
    have hH2 := hH.out;rw [h0, hexv] at hH2;have HH := zJv hH2;clear hH2 h0 hk16 hH;go_wp2_with (go_at_call 143; refine (zvo _ _).mono ?_; rintro e w' ⟨rfl, rfl⟩)
    go_ret2
    unfold zf1;rw [HH.out];exact ⟨rfl, rfl⟩
def zdd (s : ByteArray) : Option Nat := if headB s = true ∧ s.size = 18 then hexv (s.data.toList.drop 2) 0 else none
theorem zpc (s : ByteArray) (hs : s.size ≤ 9223372036854775807) (w : World) : Calls Tryz.prog 128 #[.string s] w (zf1 (zdd s) w) := by
 unfold zdd;by_cases hh : headB s = true
 · have h2 := zo8 hh
   have hsz : (s.extract 2 s.size).size = s.size - 2 := by simp [ByteArray.size_extract]
   by_cases h18 : s.size = 18
   · rw [if_pos ⟨hh, h18⟩]
     have := zCh s _ hs hh rfl (by rw [hsz, h18]) w
     have e : (s.extract 2 s.size).data.toList = s.data.toList.drop 2 := by
      rw [ByteArray.data_extract, Array.toList_extract, List.extract_eq_drop_take'];have : s.size = s.data.toList.length := by simp
      rw [this, List.take_length]
     rwa [e] at this
   · rw [if_neg (fun h => h18 h.2)]
     have c := zlc s hs;rw [hh, if_pos rfl] at c;have hne : (((s.extract 2 s.size).size : Int) != 16) = true := by rw [hsz]; simp; omega
     generalize s.extract 2 s.size = r at c hne;clear hh hs h18 hsz h2;go_enter Tryz.func128, Tryz.ntmps128
     go_wp2_with (go_at_call 142; refine (c _).mono ?_; rintro e w' ⟨rfl, rfl⟩)
     go_ret2
     exact ⟨rfl, rfl⟩
 · rw [if_neg (fun h => hh h.1)]
   have c := zlc s hs;have hf : headB s = false := by simpa using hh
   rw [hf, if_neg (by decide)] at c;clear hh hs hf;go_enter Tryz.func128, Tryz.ntmps128
   go_wp2_with (go_at_call 142; refine (c _).mono ?_; rintro e w' ⟨rfl, rfl⟩)
   go_ret2
   exact ⟨rfl, rfl⟩
end Go.Proofs.YtidmeodmkcomlaaGreatDoor
namespace Go.Proofs
open Go.Shelf
def Tryz.lays32_ren : Go.Shelf.Ren := ⟨fun | 32 => 125 | 49 => 140 | n => n, fun | 30 => 33 | 21 => 21 | 3 => 3 | 0 => 0 | 5 => 5 | 4 => 4 | 33 => 138 | 66 => 160 | 25 => 115 | 69 => 163 | 68 => 162 | n => n, fun | 2 => 0 | 3 => 1 | n => n⟩
theorem Tryz.lays32 : Go.Proofs.Lays7.n32 Tryz.prog Tryz.lays32_ren := {
 mixed := by kernel_rfl
 f32 := Tryz.func125.trans (congrArg some (by kernel_rfl))
 f49 := Tryz.func140.trans (congrArg some (by kernel_rfl))
 t0 := Tryz.underlying0
 a0 := Tryz.isAgg0
 z0 := Tryz.sizeOf0
 v0 := Tryz.zeroValue0
 i0 := by kernel_rfl
 t3 := Tryz.underlying3
 a3 := Tryz.isAgg3
 z3 := Tryz.sizeOf3
 v3 := Tryz.zeroValue3
 i3 := by kernel_rfl
 t4 := Tryz.underlying4
 a4 := Tryz.isAgg4
 z4 := Tryz.sizeOf4
 v4 := Tryz.zeroValue4
 i4 := by kernel_rfl
 t5 := Tryz.underlying5
 a5 := Tryz.isAgg5
 z5 := Tryz.sizeOf5
 v5 := Tryz.zeroValue5
 i5 := by kernel_rfl
 t21 := Tryz.underlying21
 a21 := Tryz.isAgg21
 z21 := Tryz.sizeOf21
 v21 := Tryz.zeroValue21
 i21 := by kernel_rfl
 t25 := Tryz.underlying115
 a25 := Tryz.isAgg115
 z25 := Tryz.sizeOf115
 v25 := Tryz.zeroValue115
 i25 := by kernel_rfl
 t30 := Tryz.underlying33
 a30 := Tryz.isAgg33
 z30 := Tryz.sizeOf33
 v30 := Tryz.zeroValue33
 i30 := by kernel_rfl
 t33 := Tryz.underlying138
 a33 := Tryz.isAgg138
 z33 := Tryz.sizeOf138
 v33 := Tryz.zeroValue138
 i33 := by kernel_rfl
 t66 := Tryz.underlying160
 a66 := Tryz.isAgg160
 z66 := Tryz.sizeOf160
 t68 := Tryz.underlying162
 a68 := Tryz.isAgg162
 z68 := Tryz.sizeOf162
 v68 := Tryz.zeroValue162
 i68 := by kernel_rfl
 t69 := Tryz.underlying163
 a69 := Tryz.isAgg163
 z69 := Tryz.sizeOf163
 v69 := Tryz.zeroValue163
 i69 := by kernel_rfl
 g2 := by kernel_rfl
 g3 := by kernel_rfl }
def Tryz.lays118_ren : Go.Shelf.Ren := ⟨fun | 118 => 97 | n => n, fun | 21 => 21 | 3 => 3 | 4 => 4 | n => n, fun | n => n⟩
theorem Tryz.lays118 : Go.Proofs.Lays.n118 Tryz.prog Tryz.lays118_ren := {
 mixed := by kernel_rfl
 f118 := Tryz.func97.trans (congrArg some (by kernel_rfl))
 t3 := Tryz.underlying3
 a3 := Tryz.isAgg3
 z3 := Tryz.sizeOf3
 v3 := Tryz.zeroValue3
 t4 := Tryz.underlying4
 a4 := Tryz.isAgg4
 z4 := Tryz.sizeOf4
 v4 := Tryz.zeroValue4
 t21 := Tryz.underlying21
 a21 := Tryz.isAgg21
 z21 := Tryz.sizeOf21
 v21 := Tryz.zeroValue21 }
def Tryz.lays137_ren : Go.Shelf.Ren := ⟨fun | 137 => 98 | 217 => 126 | 266 => 141 | n => n, fun | 9 => 9 | 5 => 5 | 3 => 3 | n => n, fun | n => n⟩
theorem Tryz.lays137 : Go.Proofs.Lays.n137 Tryz.prog Tryz.lays137_ren := {
 mixed := by kernel_rfl
 f137 := Tryz.func98.trans (congrArg some (by kernel_rfl))
 f217 := Tryz.func126.trans (congrArg some (by kernel_rfl))
 f266 := Tryz.func141.trans (congrArg some (by kernel_rfl))
 t3 := Tryz.underlying3
 a3 := Tryz.isAgg3
 z3 := Tryz.sizeOf3
 v3 := Tryz.zeroValue3
 t5 := Tryz.underlying5
 a5 := Tryz.isAgg5
 z5 := Tryz.sizeOf5
 v5 := Tryz.zeroValue5
 t9 := Tryz.underlying9
 a9 := Tryz.isAgg9
 z9 := Tryz.sizeOf9
 v9 := Tryz.zeroValue9 }
def Tryz.laysC174_ren : Go.Shelf.Ren := ⟨fun | 174 => 130 | 247 => 144 | 245 => 145 | 287 => 150 | 279 => 151 | 280 => 152 | 281 => 153 | 282 => 154 | 321 => 158 | 322 => 159 | 316 => 160 | 171 => 162 | 205 => 161 | 243 => 165 | 246 => 167 | 283 => 169 | 284 => 170 | 285 => 171 | 286 => 172 | 129 => 177 | 317 => 176 | 318 => 178 | 319 => 179 | 320 => 180 | 337 => 181 | 338 => 182 | n => n, fun | 9 => 9 | 3 => 3 | 2 => 2 | 75 => 145 | 85 => 146 | 4 => 4 | 167 => 167 | 5 => 5 | 53 => 34 | 175 => 168 | 46 => 115 | 168 => 170 | 37 => 33 | 0 => 0 | 210 => 177 | 21 => 21 | 127 => 179 | 145 => 182 | 143 => 180 | 171 => 184 | 173 => 187 | 212 => 192 | 51 => 193 | 20 => 20 | 213 => 194 | 232 => 198 | 233 => 199 | 80 => 200 | n => n, fun | 15 => 4 | 16 => 5 | 17 => 6 | 18 => 7 | 19 => 8 | n => n⟩
theorem Tryz.laysC174 : Go.Proofs.LaysC.n174 Tryz.prog Tryz.laysC174_ren := {
 mixed := by kernel_rfl
 f129 := Tryz.func177.trans (congrArg some (by kernel_rfl))
 f171 := Tryz.func162.trans (congrArg some (by kernel_rfl))
 f174 := Tryz.func130.trans (congrArg some (by kernel_rfl))
 f205 := Tryz.func161.trans (congrArg some (by kernel_rfl))
 f243 := Tryz.func165.trans (congrArg some (by kernel_rfl))
 f245 := Tryz.func145.trans (congrArg some (by kernel_rfl))
 f246 := Tryz.func167.trans (congrArg some (by kernel_rfl))
 f247 := Tryz.func144.trans (congrArg some (by kernel_rfl))
 f279 := Tryz.func151.trans (congrArg some (by kernel_rfl))
 f280 := Tryz.func152.trans (congrArg some (by kernel_rfl))
 f281 := Tryz.func153.trans (congrArg some (by kernel_rfl))
 f282 := Tryz.func154.trans (congrArg some (by kernel_rfl))
 f283 := Tryz.func169.trans (congrArg some (by kernel_rfl))
 f284 := Tryz.func170.trans (congrArg some (by kernel_rfl))
 f285 := Tryz.func171.trans (congrArg some (by kernel_rfl))
 f286 := Tryz.func172.trans (congrArg some (by kernel_rfl))
 f287 := Tryz.func150.trans (congrArg some (by kernel_rfl))
 f316 := Tryz.func160.trans (congrArg some (by kernel_rfl))
 f317 := Tryz.func176.trans (congrArg some (by kernel_rfl))
 f318 := Tryz.func178.trans (congrArg some (by kernel_rfl))
 f319 := Tryz.func179.trans (congrArg some (by kernel_rfl))
 f320 := Tryz.func180.trans (congrArg some (by kernel_rfl))
 f321 := Tryz.func158.trans (congrArg some (by kernel_rfl))
 f322 := Tryz.func159.trans (congrArg some (by kernel_rfl))
 f337 := Tryz.func181.trans (congrArg some (by kernel_rfl))
 f338 := Tryz.func182.trans (congrArg some (by kernel_rfl))
 t0 := Tryz.underlying0
 a0 := Tryz.isAgg0
 z0 := Tryz.sizeOf0
 v0 := Tryz.zeroValue0
 t2 := Tryz.underlying2
 a2 := Tryz.isAgg2
 z2 := Tryz.sizeOf2
 v2 := Tryz.zeroValue2
 t3 := Tryz.underlying3
 a3 := Tryz.isAgg3
 z3 := Tryz.sizeOf3
 v3 := Tryz.zeroValue3
 t4 := Tryz.underlying4
 a4 := Tryz.isAgg4
 z4 := Tryz.sizeOf4
 v4 := Tryz.zeroValue4
 t5 := Tryz.underlying5
 a5 := Tryz.isAgg5
 z5 := Tryz.sizeOf5
 v5 := Tryz.zeroValue5
 t9 := Tryz.underlying9
 a9 := Tryz.isAgg9
 z9 := Tryz.sizeOf9
 v9 := Tryz.zeroValue9
 t20 := Tryz.underlying20
 a20 := Tryz.isAgg20
 z20 := Tryz.sizeOf20
 v20 := Tryz.zeroValue20
 t21 := Tryz.underlying21
 a21 := Tryz.isAgg21
 z21 := Tryz.sizeOf21
 v21 := Tryz.zeroValue21
 t37 := Tryz.underlying33
 a37 := Tryz.isAgg33
 z37 := Tryz.sizeOf33
 v37 := Tryz.zeroValue33
 t46 := Tryz.underlying115
 a46 := Tryz.isAgg115
 z46 := Tryz.sizeOf115
 v46 := Tryz.zeroValue115
 t51 := Tryz.underlying193
 a51 := Tryz.isAgg193
 z51 := Tryz.sizeOf193
 v51 := Tryz.zeroValue193
 t53 := Tryz.underlying34
 a53 := Tryz.isAgg34
 z53 := Tryz.sizeOf34
 v53 := Tryz.zeroValue34
 t75 := Tryz.underlying145
 a75 := Tryz.isAgg145
 z75 := Tryz.sizeOf145
 v75 := Tryz.zeroValue145
 t85 := Tryz.underlying146
 a85 := Tryz.isAgg146
 z85 := Tryz.sizeOf146
 v85 := Tryz.zeroValue146
 t127 := Tryz.underlying179
 a127 := Tryz.isAgg179
 z127 := Tryz.sizeOf179
 v127 := Tryz.zeroValue179
 t143 := Tryz.underlying180
 a143 := Tryz.isAgg180
 z143 := Tryz.sizeOf180
 v143 := Tryz.zeroValue180
 t145 := Tryz.underlying182
 a145 := Tryz.isAgg182
 z145 := Tryz.sizeOf182
 v145 := Tryz.zeroValue182
 t167 := Tryz.underlying167
 a167 := Tryz.isAgg167
 z167 := Tryz.sizeOf167
 v167 := Tryz.zeroValue167
 t168 := Tryz.underlying170
 a168 := Tryz.isAgg170
 z168 := Tryz.sizeOf170
 v168 := Tryz.zeroValue170
 t171 := Tryz.underlying184
 a171 := Tryz.isAgg184
 z171 := Tryz.sizeOf184
 v171 := Tryz.zeroValue184
 t173 := Tryz.underlying187
 a173 := Tryz.isAgg187
 z173 := Tryz.sizeOf187
 v173 := Tryz.zeroValue187
 t175 := Tryz.underlying168
 a175 := Tryz.isAgg168
 z175 := Tryz.sizeOf168
 v175 := Tryz.zeroValue168
 t210 := Tryz.underlying177
 a210 := Tryz.isAgg177
 z210 := Tryz.sizeOf177
 v210 := Tryz.zeroValue177
 t212 := Tryz.underlying192
 a212 := Tryz.isAgg192
 z212 := Tryz.sizeOf192
 v212 := Tryz.zeroValue192
 t213 := Tryz.underlying194
 a213 := Tryz.isAgg194
 z213 := Tryz.sizeOf194
 t232 := Tryz.underlying198
 a232 := Tryz.isAgg198
 z232 := Tryz.sizeOf198
 v232 := Tryz.zeroValue198
 t233 := Tryz.underlying199
 a233 := Tryz.isAgg199
 z233 := Tryz.sizeOf199
 v233 := Tryz.zeroValue199
 g15 := by kernel_rfl
 g16 := by kernel_rfl
 g17 := by kernel_rfl
 g18 := by kernel_rfl
 g19 := by kernel_rfl
 t80 := Tryz.underlying200
 a80 := Tryz.isAgg200
 z80 := Tryz.sizeOf200
 v80 := Tryz.zeroValue200
 i0 := by kernel_rfl
 i2 := by kernel_rfl
 i3 := by kernel_rfl
 i4 := by kernel_rfl
 i5 := by kernel_rfl
 i9 := by kernel_rfl
 i20 := by kernel_rfl
 i21 := by kernel_rfl
 i37 := by kernel_rfl
 i46 := by kernel_rfl
 i51 := by kernel_rfl
 i53 := by kernel_rfl
 i75 := by kernel_rfl
 i80 := by kernel_rfl
 i85 := by kernel_rfl
 i127 := by kernel_rfl
 i143 := by kernel_rfl
 i145 := by kernel_rfl
 i167 := by kernel_rfl
 i168 := by kernel_rfl
 i171 := by kernel_rfl
 i173 := by kernel_rfl
 i175 := by kernel_rfl
 i210 := by kernel_rfl
 i212 := by kernel_rfl
 i232 := by kernel_rfl
 i233 := by kernel_rfl
 m15 := by kernel_rfl
 m16 := by kernel_rfl
 m17 := by kernel_rfl
 m18 := by kernel_rfl
 m19 := by kernel_rfl
 c0 := by kernel_rfl
 c2 := by kernel_rfl
 c3 := by kernel_rfl
 c4 := by kernel_rfl
 c5 := by kernel_rfl
 c9 := by kernel_rfl
 c20 := by kernel_rfl
 c21 := by kernel_rfl
 c37 := by kernel_rfl
 c46 := by kernel_rfl
 c51 := by kernel_rfl
 c53 := by kernel_rfl
 c75 := by kernel_rfl
 c80 := by kernel_rfl
 c85 := by kernel_rfl
 c127 := by kernel_rfl
 c143 := by kernel_rfl
 c145 := by kernel_rfl
 c167 := by kernel_rfl
 c168 := by kernel_rfl
 c171 := by kernel_rfl
 c173 := by kernel_rfl
 c175 := by kernel_rfl
 c210 := by kernel_rfl
 c212 := by kernel_rfl
 c213 := by kernel_rfl
 c232 := by kernel_rfl
 c233 := by kernel_rfl }
theorem Tryz.utf8_RuneLen (r : Int) (w : World) :
 Calls Tryz.prog 97 #[.int .i32 r] w fun e w' => e = .returned (.int .i64 (Lib.runeLen r)) ∧ w' = w := Any.utf8_RuneLen Tryz.lays118 r w
open Go.RowKit in
theorem Tryz.strings_IndexByte (s : ByteArray) (c : Int) (w : World) :
 Calls Tryz.prog 98 #[.string s, .int .u8 c] w fun e w' => e = .returned (.int .i64 (Lib.indexByte s.data.toList c.toNat.toUInt8)) ∧ w' = w := Any.strings_IndexByte Tryz.lays137 s c w
open Go.RowKit in
theorem Tryz.strconv_ParseInt_10_at64_ok (s : ByteArray) (hmax : s.size ≤ 9223372036854775806) (v : Int) (h : Lib.parseIntB 64 s.data.toList = .ok v) (w : World) :
 Calls Tryz.prog 130 #[.string s, .int .i64 10, .int .i64 64] w fun e w' => e = .returned (.tuple #[.int .i64 v, .nilIface]) ∧ (w' = w ∨ ∃ t, w' = Lib.bytesWorld w 5 t) := Any.strconv_ParseInt_10_at64_ok Tryz.laysC174 s hmax v h w
end Go.Proofs
