/- How many bytes an int's token and blanks have; which token stands ahead: the program's own functions, at every string of at most 2^20 bytes. The bytes of a -/
import Derived.Test.YtjbdgjbmbohfmaaGreatDoorK06
import Derived.Lib.SmallJoins
import Derived.OwnWalk
import Derived.Laws.AppendOwnNone
import Derived.Lib.SliceRun
import Derived.Lib.RuneBytes
import Derived.Maps.AppendAt
namespace Go.Proofs.YtjbdgjbmbohfmaaGreatDoor
open Go Go.Proofs Go.RowKit
/-- What of the library's variables the calls need: the two tables, and an error that is none of nil. -/
structure Env (w : World) : Prop where
 tabs : Lib.Utf8Tabs 2 3 w
 err : ∃ tp p, w.cell? ⟨6, 0, none⟩ = some (.iface tp p)
 size : 7 ≤ w.heap.size
theorem Env.below {w w' : World} {n : Nat} (h : Env w) (hn : 7 ≤ n) (hb : Below n w w') (hs : 7 ≤ w'.heap.size) : Env w' :=
 ⟨tabs_below (by omega) hb h.tabs, by obtain ⟨tp, p, e⟩ := h.err; exact ⟨tp, p, (hb.cell (p := ⟨6, 0, none⟩) (by simp; omega)).trans e⟩, hs⟩
theorem Env.on {w w' : World} (h : Env w) (hb : Below w.heap.size w w') : Env w' := h.below h.size hb (Nat.le_trans h.size hb.size)

theorem decV_ge : ∀ (l : List UInt8) (n : Nat), n ≤ decV n l
 | [], n => Nat.le_refl _
 | c :: r, n => by
  have := decV_ge r (n * 10 + (c.toNat - 48))
  show n ≤ decV (n * 10 + (c.toNat - 48)) r
  omega
theorem parseM (M : Nat) (hM : M = 18446744073709551615) : ∀ (l : List UInt8) (n : Nat), l.all digB = true → n ≤ M → Lib.parseUintM M n l = if decV n l ≤ M then .ok (decV n l) else .range
 | [], n, _, hn => by
  show Lib.NumEnd.ok n = if n ≤ M then _ else _
  rw [if_pos hn]; rfl
 | c :: r, n, h, hn => by
  simp only [List.all_cons, Bool.and_eq_true] at h
  have hc : 48 ≤ c.toNat ∧ c.toNat ≤ 57 := by simpa [digB] using h.1
  have hg := decV_ge r (n * 10 + (c.toNat - 48))
  have he : decV n (c :: r) = decV (n * 10 + (c.toNat - 48)) r := rfl
  rw [Lib.parseUintM, if_pos hc, he]
  by_cases h1 : 1844674407370955162 ≤ n
  ·rw [if_pos h1, if_neg (by omega)]
  ·rw [if_neg h1]
   by_cases h2 : M < n * 10 + (c.toNat - 48)
   ·rw [if_pos h2, if_neg (by omega)]
   ·rw [if_neg h2]
    exact parseM M hM r _ h.2 (by omega)
theorem parse64 (l : List UInt8) (h : l.all digB = true) (h0 : l ≠ []) : Lib.parseIntB 64 l = if decV 0 l ≤ 9223372036854775807 then .ok ((decV 0 l : Nat) : Int) else .range := by
 match l, h, h0 with
 | c :: r, h, _ =>
  have hc : 48 ≤ c.toNat ∧ c.toNat ≤ 57 := by
   simp only [List.all_cons, Bool.and_eq_true] at h
   simpa [digB] using h.1
  have hp : Lib.parseUintB 64 (c :: r) = if decV 0 (c :: r) ≤ 18446744073709551615 then .ok (decV 0 (c :: r)) else .range := by
   unfold Lib.parseUintB
   rw [if_neg (by simp)]
   exact parseM _ (by decide) (c :: r) 0 h (by decide)
  unfold Lib.parseIntB
  dsimp only
  rw [if_neg (show ¬ (c.toNat = 43 ∨ c.toNat = 45) by omega), hp]
  by_cases h1 : decV 0 (c :: r) ≤ 18446744073709551615
  ·rw [if_pos h1]
   dsimp only
   by_cases h2 : decV 0 (c :: r) ≤ 9223372036854775807
   ·rw [if_pos h2, if_neg (by have : (2 : Nat) ^ (64 - 1) = 9223372036854775808 := by decide
                              rw [this]; omega), if_neg (by omega), if_neg (by omega)]
   ·rw [if_neg h2, if_pos (by have : (2 : Nat) ^ (64 - 1) = 9223372036854775808 := by decide
                              rw [this]; exact ⟨by omega, by omega⟩)]
  ·rw [if_neg h1, if_neg (by omega)]

theorem digN_take (l : List UInt8) : (l.take (digN l)).all digB = true := by
 match l with
 | [] => rfl
 | c :: r =>
  unfold digN
  by_cases h : digB c = true
  ·rw [spanN_cons _ _ _ _ h, List.take_succ_cons, List.all_cons, h, Bool.true_and]
   have : r.take (r.takeWhile digB).length = r.takeWhile digB := List.prefix_iff_eq_take.1 (List.takeWhile_prefix _) |>.symm
   rw [this, List.all_eq_true]
   intro x hx
   exact (List.all_eq_true.1 (List.all_takeWhile (p := digB) (l := r))) x hx
  ·rw [spanN_zero _ _ _ _ (by simpa using h)]
   rfl

set_option maxHeartbeats 2000000 in
theorem int_any (s : ByteArray) (hs : s.size ≤ 1048576) (h1 : 1 ≤ s.size) (hd : digB (s[0]'h1) = true) (w : World) (hE : Env w) :
 Calls Tryz.prog 201 #[.string s] w fun e w' => e = .returned (.int .i64 (intN (tl s) : Nat)) ∧ Below w.heap.size w w' := by
 have cS := span_dig s (by omega) w
 have hn := spanN_le digB digB (tl s)
 rw [tl_length] at hn
 have hl0 := tl_drop s 0 h1
 rw [List.drop_zero] at hl0
 have hn1 : 1 ≤ digN (tl s) := by unfold digN; rw [hl0, spanN_cons _ _ _ _ hd]; omega
 have hgd : (tl s).getD 0 0 = s[0] := by rw [hl0]; rfl
 have hall := digN_take (tl s)
 have hI : intN (tl s) = if (digN (tl s) = 1 ∨ (s[0]'h1).toNat ≠ 48) ∧ decV 0 ((tl s).take (digN (tl s))) ≤ 9223372036854775807 then digN (tl s) else 0 := by
  unfold intN; rw [hgd]
 rw [hI]
 have hnn : digN (tl s) ≤ s.size := hn
 have he : tl (s.extract 0 (digN (tl s))) = (tl s).take (digN (tl s)) := by rw [tl_extract, List.drop_zero]
 rw [← he] at hall ⊢
 have hz : (s.extract 0 (digN (tl s))).size = digN (tl s) := by simp [ByteArray.size_extract]; omega
 clear hn hI hgd hl0 he hd
 obtain ⟨n, hN⟩ : ∃ n, digN (tl s) = n := ⟨_, rfl⟩
 rw [hN] at cS hn1 hall hnn hz ⊢
 clear hN
 by_cases hlead : n = 1 ∨ (s[0]'h1).toNat ≠ 48
 ·have hcond : (((n : Int) > 1 : Bool) && ((s[0]'h1).toNat : Int) == 48) = false := by
   rcases hlead with h | h
   ·subst h; simp
   ·simp; intro _; omega
  obtain ⟨t, ht⟩ : ∃ t, s.extract 0 n = t := ⟨_, rfl⟩
  rw [ht] at hall hz ⊢
  have hp := parse64 (tl t) hall (fun h => by have := tl_length t; rw [h, hz] at this; simp at this; omega)
  by_cases hfit : decV 0 (tl t) ≤ 9223372036854775807
  ·rw [if_pos ⟨hlead, hfit⟩]
   rw [if_pos hfit] at hp
   have cP := Tryz.strconv_ParseInt_10_at64_ok t (by omega) _ hp w
   have cP' : Calls Tryz.prog 239 #[.string t, .int .i64 10, .int .i64 64] w fun e w' => (∃ v : Int, e = .returned (.tuple #[.int .i64 v, .nilIface])) ∧ Below w.heap.size w w' :=
    cP.mono fun e w' ⟨h1, h2⟩ => ⟨⟨_, h1⟩, by
     rcases h2 with rfl | ⟨x, rfl⟩
     ·exact Below.refl _ _
     ·exact Go.Joins.below_bytesWorld _ _ _ _ (Nat.le_refl _)⟩
   clear cP hp hfit hall
   by_cases hgt : 1 < n
   ·have h48 : ¬ (s[0]'h1).toNat = 48 := by omega
    clear hlead hcond
    go_enter Tryz.func201, Tryz.ntmps201
    go_wp2_with (first | (go_at_call 238; refine cS.mono ?_; rintro e w' ⟨rfl, rfl⟩) | (go_at_call 239; refine cP'.mono ?_; rintro e w1 ⟨⟨v, rfl⟩, hb1⟩))
    go_ret
    exact ⟨rfl, hb1⟩
   ·clear hlead hcond
    go_enter Tryz.func201, Tryz.ntmps201
    go_wp2_with (first | (go_at_call 238; refine cS.mono ?_; rintro e w' ⟨rfl, rfl⟩) | (go_at_call 239; refine cP'.mono ?_; rintro e w1 ⟨⟨v, rfl⟩, hb1⟩))
    go_ret
    exact ⟨rfl, hb1⟩
  ·rw [if_neg (fun h => hfit h.2)]
   rw [if_neg hfit] at hp
   obtain ⟨tp, p, he⟩ := hE.err
   have cP := Any.strconv_ParseInt_10_at64_range Tryz.laysC174 t (by omega) hp (.iface tp p) w he (Or.inr ⟨tp, p, rfl⟩)
   have cP' : Calls Tryz.prog 239 #[.string t, .int .i64 10, .int .i64 64] w fun e w' => (∃ (v : Int) (T : TypeId) (N : Nat), e = .returned (.tuple #[.int .i64 v, .iface T (.pointer (some ⟨N, 0, none⟩))])) ∧ Below w.heap.size w w' :=
    cP.mono fun e w' ⟨N, h1, _, _, h2⟩ => ⟨⟨_, _, N, h1⟩, h2⟩
   clear cP hp hfit hall he
   by_cases hgt : 1 < n
   ·have h48 : ¬ (s[0]'h1).toNat = 48 := by omega
    clear hlead hcond
    go_enter Tryz.func201, Tryz.ntmps201
    go_wp2_with (first | (go_at_call 238; refine cS.mono ?_; rintro e w' ⟨rfl, rfl⟩) | (go_at_call 239; refine cP'.mono ?_; rintro e w1 ⟨⟨v, T, N, rfl⟩, hb1⟩))
    go_ret
    exact ⟨rfl, hb1⟩
   ·clear hlead hcond
    go_enter Tryz.func201, Tryz.ntmps201
    go_wp2_with (first | (go_at_call 238; refine cS.mono ?_; rintro e w' ⟨rfl, rfl⟩) | (go_at_call 239; refine cP'.mono ?_; rintro e w1 ⟨⟨v, T, N, rfl⟩, hb1⟩))
    go_ret
    exact ⟨rfl, hb1⟩
 ·rw [if_neg (fun h => hlead h.1)]
  have hgt : 1 < n := by omega
  have h48 : (s[0]'h1).toNat = 48 := Classical.byContradiction fun h => hlead (.inr h)
  clear hlead hall
  go_enter Tryz.func201, Tryz.ntmps201
  go_wp2_with (first | (go_at_call 238; refine cS.mono ?_; rintro e w' ⟨rfl, rfl⟩))
  go_ret
  exact ⟨rfl, Below.refl _ _⟩
end Go.Proofs.YtjbdgjbmbohfmaaGreatDoor
namespace Go.Proofs.YtjbdgjbmbohfmaaGreatDoor
open Go Go.Proofs Go.RowKit Go.Shelf
def cells8 (l : List UInt8) : List Value := l.map fun c => Value.int .u8 (c.toNat : Int)
theorem info5 : (Tryz.prog.info? 5).map (fun i => (i.zero, i.size, i.bytes)) = some (some (.int .u8 0), 1, 1) := by kernel_rfl

theorem cells8_length (l : List UInt8) : (cells8 l).length = l.length := by simp [cells8]
theorem cells8_append (l m : List UInt8) : cells8 (l ++ m) = cells8 l ++ cells8 m := by simp [cells8]
theorem add_none (b off j : Nat) : (⟨b, off, none⟩ : Addr).add j = ⟨b, off + j, none⟩ := by
 unfold Addr.add; split <;> simp_all

theorem text_of_owns {w : World} {base : Nat} {v : Value} {n : Nat} {l : List UInt8} (h : w.ownsRow base 5 1 v n (cells8 l)) : TextAt w.heap.size w v l := by
 have hl : l.length = n := by have := h.1; simpa [cells8_length] using this
 rcases h.2 with ⟨rfl, rfl⟩ | ⟨g, cap, cur, rfl, hb, hg, hn, _, hcs, _⟩
 ·exact .inl ⟨none, 0, fun _ => rfl, rfl, List.length_eq_zero_iff.1 hl⟩
 ·refine .inr ⟨g, 0, cap, by rw [hl], (Array.getElem?_eq_some_iff.1 hg).1, by omega, fun j hj => ?_⟩
  have := h.cells (g := g) rfl j (.int .u8 ((l.getD j 0).toNat : Int)) (by simp [cells8, List.getD_eq_getElem?_getD, List.getElem?_eq_getElem hj])
  rwa [add_none] at this

theorem TextAt.more {n m : Nat} {W : World} {sv : Value} {l : List UInt8} (hn : n ≤ m) : TextAt n W sv l → TextAt m W sv l
 | .inl e => .inl e
 | .inr ⟨b, off, cap, e, hb, hc, hh⟩ => .inr ⟨b, off, cap, e, Nat.lt_of_lt_of_le hb hn, hc, hh⟩

/-- The number is a sign's. -/
def isSign (r : Int) : Prop := 0 ≤ r ∧ r ≤ 1114111 ∧ ¬ (55296 ≤ r ∧ r ≤ 57343)
/-- Its bytes. -/
def encB (r : Int) : List UInt8 := (Lib.encodeRuneZ r).map fun x => UInt8.ofNat x.toNat

theorem cells_encB (r : Int) : cells8 (encB r) = Lib.runeCells r := by
 unfold cells8 encB Lib.runeCells
 rw [List.map_map]
 apply List.map_congr_left
 intro x hx
 have := Lib.encodeRuneZ_byte r x hx
 simp
 omega

/-- What the document's answer leaves for a sign. -/
def RefEnc (r : Int) (w : World) (e : Ending) (w' : World) : Prop :=
 e = .returned (.tuple #[.slice (some ⟨w.heap.size, 0, none⟩) (encB r).length (encB r).length, .bool true]) ∧ w' = w.alloc (.cells (cells8 (encB r)).toArray 5)

set_option maxHeartbeats 2000000 in
theorem refEnc_bad (r : Int) (h : ¬ isSign r) (w : World) :
 Calls Tryz.prog 215 #[.int .i64 r] w fun e w' => e = .returned (.tuple #[.slice none 0 0, .bool false]) ∧ w' = w := by
 unfold isSign at h
 by_cases c1 : r < 0
 ·clear h
  go_enter Tryz.func215, Tryz.ntmps215
  go_wp2
  go_ret2
  exact ⟨rfl, rfl⟩
 ·by_cases c2 : 1114111 < r
  ·clear h
   go_enter Tryz.func215, Tryz.ntmps215
   go_wp2
   go_ret2
   exact ⟨rfl, rfl⟩
  ·have c3 : 55296 ≤ r := by omega
   have c4 : r ≤ 57343 := by omega
   clear h
   go_enter Tryz.func215, Tryz.ntmps215
   go_wp2
   go_ret2
   exact ⟨rfl, rfl⟩

theorem refEnc_mk (r : Int) (w : World) (zs : List Int) (h : Lib.encodeRuneZ r = zs) : RefEnc r w (.returned (.tuple #[.slice (some ⟨w.heap.size, 0, none⟩) zs.length zs.length, .bool true])) (w.alloc (.cells (zs.map fun x => Value.int .u8 x).toArray 5)) := by
 unfold RefEnc
 rw [cells_encB]
 unfold Lib.runeCells encB
 rw [h]
 simp

set_option maxHeartbeats 2000000 in
theorem refEnc_ok (r : Int) (h : isSign r) (w : World) : Calls Tryz.prog 215 #[.int .i64 r] w (RefEnc r w) := by
 obtain ⟨h0, h1, h2⟩ := h
 by_cases c1 : r ≤ 127
 ·have he := Lib.hid (Lib.encodeRuneZ_one h0 c1)
  clear h2
  go_enter Tryz.func215, Tryz.ntmps215
  go_wp2
  go_ret2
  exact refEnc_mk r w _ he.out
 by_cases c2 : r ≤ 2047
 ·have he := Lib.hid (Lib.encodeRuneZ_two (r := r) (by omega) c2)
  clear h2
  go_enter Tryz.func215, Tryz.ntmps215
  go_wp2
  go_ret2
  exact refEnc_mk r w _ he.out
 by_cases c3 : r ≤ 65535
 ·have he := Lib.hid (Lib.encodeRuneZ_three (r := r) (by omega))
  by_cases c4 : r < 55296
  ·clear h2
   go_enter Tryz.func215, Tryz.ntmps215
   go_wp2
   go_ret2
   exact refEnc_mk r w _ he.out
  ·have c5 : 57343 < r := by omega
   clear h2
   go_enter Tryz.func215, Tryz.ntmps215
   go_wp2
   go_ret2
   exact refEnc_mk r w _ he.out
 ·have he := Lib.hid (Lib.encodeRuneZ_four (r := r) (by omega) h1)
  clear h2
  go_enter Tryz.func215, Tryz.ntmps215
  go_wp2
  go_ret2
  exact refEnc_mk r w _ he.out

theorem D_encB (r : Int) (h : isSign r) : D (encB r) = (r.toNat, (encB r).length) := by
 obtain ⟨h0, h1, h2⟩ := h
 by_cases c1 : r ≤ 127
 ·unfold encB; rw [Lib.encodeRuneZ_one h0 c1]
  unfold D Lib.decodeN
  simp
  repeat' split
  all_goals first | (exfalso; omega) | (refine Prod.ext ?_ ?_ <;> dsimp only <;> omega) | skip
 by_cases c2 : r ≤ 2047
 ·unfold encB; rw [Lib.encodeRuneZ_two (by omega) c2]
  unfold D Lib.decodeN
  simp
  repeat' split
  all_goals first | (exfalso; omega) | (refine Prod.ext ?_ ?_ <;> dsimp only <;> omega) | skip
 by_cases c3 : r ≤ 65535
 ·unfold encB; rw [Lib.encodeRuneZ_three (by omega)]
  unfold D Lib.decodeN
  simp
  repeat' split
  all_goals first | (exfalso; omega) | (refine Prod.ext ?_ ?_ <;> dsimp only <;> omega) | skip
 ·unfold encB; rw [Lib.encodeRuneZ_four (by omega) h1]
  unfold D Lib.decodeN
  simp
  repeat' split
  all_goals first | (exfalso; omega) | (refine Prod.ext ?_ ?_ <;> dsimp only <;> omega) | skip

theorem encB_length (r : Int) : 1 ≤ (encB r).length ∧ (encB r).length ≤ 4 := by
 have := Lib.encodeRuneZ_length r
 simpa [encB] using this
theorem encB_good (r : Int) (h : isSign r) : ¬ isBad (encB r) := by
 unfold isBad
 rw [D_encB r h]
 dsimp only
 rintro ⟨h1, h2⟩
 have hr : r = 65533 := by have := h.1; omega
 subst hr
 revert h2
 decide
end Go.Proofs.YtjbdgjbmbohfmaaGreatDoor
namespace Go.Proofs.YtjbdgjbmbohfmaaGreatDoor
open Go Go.Proofs Go.RowKit
theorem conv_text {n₀ : Nat} {W : World} {v : Value} {l : List UInt8} (h : TextAt n₀ W v l) (h0 : l = [] → v = .slice none 0 0) : (convert 22 9 v).run Tryz.prog W = .ok (.string ⟨l.toArray⟩) W := by
 rcases h with ⟨a, cap, _, rfl, rfl⟩ | ⟨b, off, cap, rfl, _, _, hh⟩
 ·have := h0 rfl
  cases this
  rw [Go.run_convert_bytes_string (P := Tryz.prog) W 22 9 5 none 0 0 Tryz.underlying22 Tryz.underlying5 Tryz.underlying9]
  unfold Conv.bytesToString
  simp [go_sem]
  rfl
 ·by_cases hl : l = []
  ·have := h0 hl
   cases this
  ·refine run_convert_bytes_back W 22 9 5 ⟨b, off, none⟩ _ l Tryz.underlying22 Tryz.underlying5 Tryz.underlying9 (fun j hj => ?_)
   rw [add_none, hh j hj]
   simp [List.getD_eq_getElem?_getD, List.getElem?_eq_getElem hj]

theorem strV_end (q : UInt8) (v : List UInt8) (n : Nat) (h : strV [q] = some (v, n)) : v = [] := by
 rw [strV_cons] at h
 split at h
 ·cases h; rfl
 ·split at h
  ·cases h
  ·split at h
   ·cases h
   ·rw [strV_nil] at h; cases h
theorem strV_one (c q : UInt8) (r v : List UInt8) (h : strV (c :: (r ++ [q])) = some (v, r.length + 2)) :
 (c.toNat = 92 ∧ ∃ d r' e v', r = d :: r' ∧ escB d = some e ∧ v = e :: v' ∧ strV (r' ++ [q]) = some (v', r'.length + 1)) ∨
 (¬ c.toNat = 92 ∧ ∃ v', v = c :: v' ∧ strV (r ++ [q]) = some (v', r.length + 1)) := by
 rw [strV_cons] at h
 split at h
 ·cases h
 ·split at h
  ·cases h
  ·split at h
   ·rename_i h92
    left
    refine ⟨h92, ?_⟩
    match r, h with
    | [], h =>
     simp only [List.nil_append] at h
     cases he : escB q with
     | none => rw [he] at h; cases h
     | some e => rw [he, strV_nil] at h; cases h
    | d :: r', h =>
     simp only [List.cons_append] at h
     cases he : escB d with
     | none => rw [he] at h; cases h
     | some e =>
      rw [he] at h
      simp only [Option.map_eq_some_iff, Prod.mk.injEq] at h
      obtain ⟨y, hy, h1, h2⟩ := h
      refine ⟨d, r', e, y.1, rfl, he, h1.symm, ?_⟩
      rw [hy]
      have : y.2 = r'.length + 1 := by simp at h2; omega
      rw [← this]
   ·rename_i h92
    right
    simp only [Option.map_eq_some_iff, Prod.mk.injEq] at h
    obtain ⟨y, hy, h1, h2⟩ := h
    refine ⟨h92, y.1, h1.symm, ?_⟩
    rw [hy]
    have : y.2 = r.length + 1 := by omega
    rw [← this]
theorem escB_cases {d e : UInt8} (h : escB d = some e) : (d = 92 ∧ e = 92) ∨ (d = 34 ∧ e = 34) ∨ (d = 110 ∧ e = 10) := by
 unfold escB at h
 split at h
 ·rename_i c; left; cases h; exact ⟨UInt8.toNat_inj.1 c, rfl⟩
 ·split at h
  ·rename_i c; right; left; cases h; exact ⟨UInt8.toNat_inj.1 c, rfl⟩
  ·split at h
   ·rename_i c; right; right; cases h; exact ⟨UInt8.toNat_inj.1 c, rfl⟩
   ·cases h

theorem own_text {w : World} {B : Nat} {v : Value} {l : List UInt8} (h : w.ownsRow B 5 1 v l.length (cells8 l)) (hn : l = [] → v = .slice none 0 0) : (convert 22 9 v).run Tryz.prog w = .ok (.string ⟨l.toArray⟩) w :=
 conv_text (text_of_owns h) hn

set_option maxRecDepth 100000 in
set_option maxHeartbeats 4000000 in
theorem unq_any (s : ByteArray) (hs : s.size ≤ 1099511627776) (h2 : 2 ≤ s.size) (v : List UInt8) (hv : strV ((tl s).drop 1) = some (v, s.size - 1)) (w : World) :
 Calls Tryz.prog 206 #[.string s] w fun e w' => e = .returned (.string ⟨v.toArray⟩) ∧ Below w.heap.size w w' := by
 obtain ⟨i, hi⟩ : ∃ i, s.extract 1 (s.size - 1) = i := ⟨_, rfl⟩
 have hz : i.size = s.size - 2 := by rw [← hi]; simp [ByteArray.size_extract]; omega
 obtain ⟨q, hq⟩ : ∃ q, (tl s).drop 1 = tl i ++ [q] := by
  rw [← hi, tl_extract]
  have hl := tl_length s
  refine ⟨(tl s)[s.size - 1]'(by omega), ?_⟩
  have e1 : (tl s).take (s.size - 1) ++ [(tl s)[s.size - 1]'(by omega)] = tl s := by
   rw [← List.take_succ_eq_append_getElem (by omega), show s.size - 1 + 1 = (tl s).length by omega, List.take_length]
  conv => lhs; rw [← e1]
  rw [List.drop_append_of_le_length (by rw [List.length_take, hl]; omega)]
 rw [hq] at hv
 have hil := tl_length i
 have HV : Hid (strV ((tl i).drop 0 ++ [q]) = some (v, i.size - 0 + 1)) := Lib.hid (by rw [List.drop_zero, hv, hz]; congr 2; omega)
 have hsz : i.size + 2 = s.size := by omega
 obtain ⟨i5, hi5, hz0, hz1, hz2⟩ := info_parts info5
 clear hq hv
 obtain ⟨m, hm⟩ : ∃ m, s.size - 1 = m := ⟨_, rfl⟩
 have hm1 : 1 ≤ m := by omega
 have hm2 : m ≤ s.size := by omega
 have hlow : ((s.size : Int) - 1) = (m : Int) := by omega
 rw [hm] at hi
 clear hm
 have hsl : ∀ w, (Instr.slice 9 (.string s) (some (.int .i64 1)) (some (.int .i64 (m : Int))) none).run Tryz.prog w = .ok (.string i) w := fun w => by
  rw [run_slice_string w 9 s .i64 .i64 1 m Tryz.underlying9 (by omega) (by omega) (by omega), ← hi]; rfl
 go_enter Tryz.func206, Tryz.ntmps206
 go_wp2_with fail
 go_loopw [4, 5, 6] (fun b j _ wr => ∃ (k : Nat) (pre v' : List UInt8), k ≤ i.size ∧ pre.length ≤ k ∧ j = .int .i64 k ∧ Hid (v = pre ++ v' ∧ strV ((tl i).drop k ++ [q]) = some (v', i.size - k + 1)) ∧ Hid (wr.ownsRow w.heap.size 5 1 b pre.length (cells8 pre) ∧ (pre = [] → b = .slice none 0 0)) ∧ Below w.heap.size w wr)
  (fun _ j _ _ => i.size - (intOf j).toNat)
 case atStart => exact ⟨0, [], v, Nat.zero_le _, Nat.le_refl _, rfl, Lib.hid ⟨rfl, HV.out⟩, Lib.hid ⟨World.ownsRow_nil _ _ _ _, fun _ => rfl⟩, Below.refl _ _⟩
 case round =>
  obtain ⟨k, pre, v', hk, hpk, rfl, HS, HR, hB⟩ := hrel
  have hBs := hB.size
  by_cases hlt : k < i.size
  ·have hd := tl_drop i k hlt
   have hst := HS.out.2
   rw [hd, List.cons_append] at hst
   have hlen : ((tl i).drop (k + 1)).length = i.size - k - 1 := by rw [List.length_drop, hil]; omega
   have hone := strV_one (i[k]'hlt) q ((tl i).drop (k + 1)) v' (by rw [hst, show ((tl i).drop (k + 1)).length + 2 = i.size - k + 1 by omega])
   have hc := (i[k]'hlt).toNat_lt
   rcases hone with ⟨c92, d, r', e, v'', hr, he, hvv, hs'⟩ | ⟨c92, v'', hvv, hs'⟩
   ·have hl2 : k + 1 < i.size := by
     have := congrArg List.length hr
     rw [hlen] at this
     simp at this
     omega
    have hd2 := tl_drop i (k + 1) hl2
    rw [hr] at hd2
    obtain ⟨rfl, hr2⟩ : d = i[k + 1]'hl2 ∧ r' = (tl i).drop (k + 2) := by
     simp only [List.cons.injEq] at hd2
     exact hd2
    have hlen2 : ((tl i).drop (k + 2)).length = i.size - k - 2 := by rw [List.length_drop, hil]; omega
    rw [hr2, hlen2] at hs'
    have HS2 : Hid (v = (pre ++ [e]) ++ v'' ∧ strV ((tl i).drop (k + 2) ++ [q]) = some (v'', i.size - (k + 2) + 1)) := Lib.hid ⟨by rw [HS.out.1, hvv]; simp, by rw [hs', show i.size - k - 2 + 1 = i.size - (k + 2) + 1 by omega]⟩
    have ci : ∃ j : Int, (∀ w, Calls Tryz.prog 194 #[.string ⟨#[92, 34, 110]⟩, .int .u8 ((i[k + 1]'hl2).toNat : Int)] w fun e w' => e = .returned (.int .i64 j) ∧ w = w') ∧ ((j = 0 ∧ e = 92) ∨ (j = 1 ∧ e = 34) ∨ (j = 2 ∧ e = 10)) := by
     refine ⟨_, index_any ⟨#[92, 34, 110]⟩ _, ?_⟩
     rcases escB_cases he with ⟨h1, h2⟩ | ⟨h1, h2⟩ | ⟨h1, h2⟩
     ·left; rw [h1]; exact ⟨rfl, h2⟩
     ·right; left; rw [h1]; exact ⟨rfl, h2⟩
     ·right; right; rw [h1]; exact ⟨rfl, h2⟩
    obtain ⟨j, ci, hj⟩ := ci
    clear hd hst hlen hr hd2 hr2 hlen2 hs' he hvv HS
    rcases hj with ⟨rfl, rfl⟩ | ⟨rfl, rfl⟩ | ⟨rfl, rfl⟩
    all_goals
     go_wp2_with (first | (go_at_call 194; refine (ci _).mono ?_; rintro e w' ⟨rfl, rfl⟩) | (at_builtin; refine wpList_append_own_at _ rfl _ _ 22 rfl w.heap.size 5 i5 (.int .u8 0) 1 1 Tryz.underlying22 hi5 hz0 hz1 hz2 rfl (by decide) _ pre.length (cells8 pre) rfl (HR.out.1.alloc _) ⟨wr.heap.size, 0, none⟩ 1 1 [_] rfl rfl (cell_one_new _ _ _) (by simp [Value.oneCell']) (by unfold maxLen; omega) (by omega) (by simp; omega) ?_))
     intro b' W1 hown hg _ _
     have hbW1 : Below w.heap.size w W1 := (hB.alloc hBs _).grown hg (by simp; omega) (fun g hg => (HR.out.1.lt g hg).1)
     have HO := Lib.hid hown
     have hsW1 := hbW1.size
     clear hown hg
     go_wp2_with fail
     go_roundw
     case rel => exact ⟨k + 2, _, _, by omega, by simp; omega, by go_num, HS2, Lib.hid ⟨by rw [cells8_append, List.length_append]; exact HO.out, by simp⟩, hbW1⟩
     case measure => simp [intOf]; omega
   ·rw [hlen] at hs'
    have HS2 : Hid (v = (pre ++ [i[k]'hlt]) ++ v'' ∧ strV ((tl i).drop (k + 1) ++ [q]) = some (v'', i.size - (k + 1) + 1)) := Lib.hid ⟨by rw [HS.out.1, hvv]; simp, by rw [hs', show i.size - k - 1 + 1 = i.size - (k + 1) + 1 by omega]⟩
    clear hd hst hlen hs' hvv HS
    go_wp2_with (at_builtin; refine wpList_append_own_at _ rfl _ _ 22 rfl w.heap.size 5 i5 (.int .u8 0) 1 1 Tryz.underlying22 hi5 hz0 hz1 hz2 rfl (by decide) _ pre.length (cells8 pre) rfl (HR.out.1.alloc _) ⟨wr.heap.size, 0, none⟩ 1 1 [_] rfl rfl (cell_one_new _ _ _) (by simp [Value.oneCell']) (by unfold maxLen; omega) (by omega) (by simp; omega) ?_)
    intro b' W1 hown hg _ _
    have hbW1 : Below w.heap.size w W1 := (hB.alloc hBs _).grown hg (by simp; omega) (fun g hg => (HR.out.1.lt g hg).1)
    have HO := Lib.hid hown
    have hsW1 := hbW1.size
    clear hown hg
    go_wp2_with fail
    go_roundw
    case rel => exact ⟨k + 1, _, _, by omega, by simp; omega, by go_num, HS2, Lib.hid ⟨by simpa [cells8] using HO.out, by simp⟩, hbW1⟩
    case measure => simp [intOf]; omega
  ·obtain rfl : k = i.size := by omega
   have hnil : (tl i).drop i.size = [] := List.drop_eq_nil_of_le (by omega)
   have hst := HS.out.2
   rw [hnil, List.nil_append] at hst
   have hv0 := strV_end q v' _ hst
   have hvp : v = pre := by rw [HS.out.1, hv0, List.append_nil]
   subst hvp
   have hcv := own_text HR.out.1 HR.out.2
   clear hnil hst hv0 HS
   go_wp2_with fail
   go_ret
   exact ⟨rfl, hB⟩
end Go.Proofs.YtjbdgjbmbohfmaaGreatDoor
