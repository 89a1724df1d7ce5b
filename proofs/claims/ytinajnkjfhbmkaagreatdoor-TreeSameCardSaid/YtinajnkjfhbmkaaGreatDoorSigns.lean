/- The signs of a text as the document tells them. -/
import Derived.Test.YtinajnkjfhbmkaaGreatDoorIterB
import Derived.OwnWalk
import Derived.Laws.AppendOwnNone
import Derived.Lib.SliceRun
import Derived.Lib.RuneBytes
import Derived.Deep.QuietTactic
import Derived.BigQuiet
import Derived.Maps.AppendAt
namespace Go.Proofs.YtinajnkjfhbmkaaGreatDoor
open Go Go.Proofs Go.RowKit Go.Shelf

def cells8 (l : List UInt8) : List Value := l.map fun c => Value.int .u8 (c.toNat : Int)
theorem info5 : (Tryz.prog.info? 5).map (fun i => (i.zero, i.size, i.bytes)) = some (some (.int .u8 0), 1, 1) := by kernel_rfl

theorem cells8_length (l : List UInt8) : (cells8 l).length = l.length := by simp [cells8]
theorem cells8_append (l m : List UInt8) : cells8 (l ++ m) = cells8 l ++ cells8 m := by simp [cells8]
theorem cells8_one (l : List UInt8) : ∀ u ∈ cells8 l, u.oneCell' = true := by
  intro u hu
  simp only [cells8, List.mem_map] at hu
  obtain ⟨c, _, rfl⟩ := hu
  rfl
theorem cells8_get (l : List UInt8) (j : Nat) (u : Value) (h : (cells8 l)[j]? = some u) : j < l.length ∧ u = .int .u8 ((l.getD j 0).toNat : Int) := by
  simp only [cells8, List.getElem?_map, Option.map_eq_some_iff] at h
  obtain ⟨c, hc, rfl⟩ := h
  have hj := (List.getElem?_eq_some_iff.1 hc).1
  exact ⟨hj, by simp [List.getD_eq_getElem?_getD, hc]⟩
theorem add_none (b off j : Nat) : (⟨b, off, none⟩ : Addr).add j = ⟨b, off + j, none⟩ := by
  unfold Addr.add; split <;> simp_all

theorem wpList_append_text {ops : Array Oper} {rest : List Oper} {o : Oper} {a : Act} {w : World} {Q : Exit → Act → World → Prop} (hgd : o.guard = none) (s x : Operand)
    (ho : o.op = .call { callee := .builtin .append, args := #[s, x], argTypes := #[97, 97] }) (base : Nat) (v : Value) (n : Nat) (xs : List UInt8) (hs : a.eval s = v) (hown : w.ownsRow base 5 1 v n (cells8 xs))
    (B : Nat) (sv : Value) (l : List UInt8) (hx : a.eval x = sv) (hI : TextAt B w sv l) (hbytes : n + l.length ≤ 140737488355328) (hbase : base ≤ w.heap.size)
    (h : ∀ v' w', w'.ownsRow base 5 1 v' (n + l.length) (cells8 (xs ++ l)) → w.grownBy w' v.ownBlock → wpList Tryz.prog ops Q rest (a.put o.dst v') w') : wpList Tryz.prog ops Q (o :: rest) a w := by
  obtain ⟨i0, hi, hz0, hz1, hz2⟩ := info_parts info5
  have hm : n + l.length ≤ maxLen := by unfold maxLen; omega
  rcases hI with ⟨A, cap, hA, rfl, rfl⟩ | ⟨b, off, cap, rfl, _, _, hh⟩
  · rcases A with _ | ad
    · obtain rfl := hA rfl
      exact wpList_append_own_none hgd s x 97 ho base 5 i0 1 Tryz.underlying97 hi v n (cells8 xs) hs hown hx (h v w (by simpa using hown) (World.grownBy.refl w _))
    · exact wpList_append_own w hgd s x 97 ho base 5 i0 (.int .u8 0) 1 1 Tryz.underlying97 hi hz0 hz1 hz2 rfl (by decide) v n (cells8 xs) hs hown ad 0 cap [] hx rfl (by simp) (by simp) hm (by simpa using hbytes) hbase
        (fun v' w' h1 h2 _ => h v' w' (by simpa using h1) h2)
  · refine wpList_append_own w hgd s x 97 ho base 5 i0 (.int .u8 0) 1 1 Tryz.underlying97 hi hz0 hz1 hz2 rfl (by decide) v n (cells8 xs) hs hown ⟨b, off, none⟩ l.length cap (cells8 l) hx (by simp [cells8_length]) ?_ (cells8_one l) hm (by simpa using hbytes) hbase
        (fun v' w' h1 h2 _ => h v' w' (by rw [cells8_append]; exact h1) h2)
    intro j u hu
    obtain ⟨hj, rfl⟩ := cells8_get l j u hu
    rw [add_none]
    exact hh j hj

theorem text_of_owns {w : World} {base : Nat} {v : Value} {n : Nat} {l : List UInt8} (h : w.ownsRow base 5 1 v n (cells8 l)) : TextAt w.heap.size w v l := by
  have hl : l.length = n := by have := h.1; simpa [cells8_length] using this
  rcases h.2 with ⟨rfl, rfl⟩ | ⟨g, cap, cur, rfl, hb, hg, hn, _, hcs, _⟩
  · exact .inl ⟨none, 0, fun _ => rfl, rfl, List.length_eq_zero_iff.1 hl⟩
  · refine .inr ⟨g, 0, cap, by rw [hl], (Array.getElem?_eq_some_iff.1 hg).1, by omega, fun j hj => ?_⟩
    have := h.cells (g := g) rfl j (.int .u8 ((l.getD j 0).toNat : Int)) (by simp [cells8, List.getD_eq_getElem?_getD, List.getElem?_eq_getElem hj])
    rwa [add_none] at this

theorem textIn_of_owns {w : World} {base : Nat} {v : Value} {n : Nat} {l : List UInt8} (h0 : 0 < w.heap.size) (h : w.ownsRow base 5 1 v n (cells8 l)) : ∃ b, TextIn b w v l ∧ b < w.heap.size ∧ (base ≤ b ∨ b = 0) := by
  have hl : l.length = n := by have := h.1; simpa [cells8_length] using this
  rcases h.2 with ⟨rfl, rfl⟩ | ⟨g, cap, cur, rfl, hb, hg, hn, _, hcs, _⟩
  · exact ⟨0, .inl ⟨none, 0, fun _ => rfl, rfl, List.length_eq_zero_iff.1 hl⟩, h0, .inr rfl⟩
  · refine ⟨g, .inr ⟨0, cap, by rw [hl], by omega, fun j hj => ?_⟩, (Array.getElem?_eq_some_iff.1 hg).1, .inl hb⟩
    have := h.cells (g := g) rfl j (.int .u8 ((l.getD j 0).toNat : Int)) (by simp [cells8, List.getD_eq_getElem?_getD, List.getElem?_eq_getElem hj])
    rwa [add_none] at this

theorem TextAt.more {n m : Nat} {W : World} {sv : Value} {l : List UInt8} (hn : n ≤ m) : TextAt n W sv l → TextAt m W sv l
  | .inl e => .inl e
  | .inr ⟨b, off, cap, e, hb, hc, hh⟩ => .inr ⟨b, off, cap, e, Nat.lt_of_lt_of_le hb hn, hc, hh⟩

/-- The number is a sign's. -/
def isSign (r : Int) : Prop := 0 ≤ r ∧ r ≤ 1114111 ∧ ¬ (55296 ≤ r ∧ r ≤ 57343)
/-- Its bytes. -/
def encB (r : Int) : List UInt8 := (Lib.encodeRuneZ r).map fun x => UInt8.ofNat x.toNat

theorem cells_encB (r : Int) : cells8 (encB r) = Lib.runeCells r := by
  unfold cells8 encB Lib.runeCells
  rw [List.map_map]
  apply List.map_congr_left
  intro x hx
  have := Lib.encodeRuneZ_byte r x hx
  simp
  omega

theorem text_new (n₀ : Nat) (w : World) (l : List UInt8) (cs : Array Value) (hc : cs = (cells8 l).toArray) (h : w.heap.size < n₀) : TextAt n₀ (w.alloc (.cells cs 5)) (.slice (some ⟨w.heap.size, 0, none⟩) l.length l.length) l := by
  subst hc
  refine .inr ⟨w.heap.size, 0, l.length, rfl, h, Nat.le_refl _, ?_⟩
  intro j hj
  have hn := World.alloc_heap_new w (.cells (cells8 l).toArray 5)
  simp only [World.cell?, hn]
  simp [cells8, List.getD_eq_getElem?_getD, List.getElem?_eq_getElem hj]

/-- What the document's answer leaves for a sign. -/
def RefEnc (r : Int) (w : World) (e : Ending) (w' : World) : Prop :=
  e = .returned (.tuple #[.slice (some ⟨w.heap.size, 0, none⟩) (encB r).length (encB r).length, .bool true]) ∧ w' = w.alloc (.cells (cells8 (encB r)).toArray 5)

set_option maxHeartbeats 2000000 in
theorem refEnc_bad (r : Int) (h : ¬ isSign r) (w : World) :
    Calls Tryz.prog 91 #[.int .i64 r] w fun e w' => e = .returned (.tuple #[.slice none 0 0, .bool false]) ∧ w' = w := by
  unfold isSign at h
  by_cases c1 : r < 0
  · clear h
    go_enter Tryz.func91, Tryz.ntmps91
    go_wp2
    go_ret2
    exact ⟨rfl, rfl⟩
  · by_cases c2 : 1114111 < r
    · clear h
      go_enter Tryz.func91, Tryz.ntmps91
      go_wp2
      go_ret2
      exact ⟨rfl, rfl⟩
    · have c3 : 55296 ≤ r := by omega
      have c4 : r ≤ 57343 := by omega
      clear h
      go_enter Tryz.func91, Tryz.ntmps91
      go_wp2
      go_ret2
      exact ⟨rfl, rfl⟩

theorem refEnc_mk (r : Int) (w : World) (zs : List Int) (h : Lib.encodeRuneZ r = zs) : RefEnc r w (.returned (.tuple #[.slice (some ⟨w.heap.size, 0, none⟩) zs.length zs.length, .bool true])) (w.alloc (.cells (zs.map fun x => Value.int .u8 x).toArray 5)) := by
  unfold RefEnc
  rw [cells_encB]
  unfold Lib.runeCells encB
  rw [h]
  simp

set_option maxHeartbeats 2000000 in
theorem refEnc_ok (r : Int) (h : isSign r) (w : World) : Calls Tryz.prog 91 #[.int .i64 r] w (RefEnc r w) := by
  obtain ⟨h0, h1, h2⟩ := h
  by_cases c1 : r ≤ 127
  · have he := Lib.hid (Lib.encodeRuneZ_one h0 c1)
    clear h2
    go_enter Tryz.func91, Tryz.ntmps91
    go_wp2
    go_ret2
    exact refEnc_mk r w _ he.out
  by_cases c2 : r ≤ 2047
  · have he := Lib.hid (Lib.encodeRuneZ_two (r := r) (by omega) c2)
    clear h2
    go_enter Tryz.func91, Tryz.ntmps91
    go_wp2
    go_ret2
    exact refEnc_mk r w _ he.out
  by_cases c3 : r ≤ 65535
  · have he := Lib.hid (Lib.encodeRuneZ_three (r := r) (by omega))
    by_cases c4 : r < 55296
    · clear h2
      go_enter Tryz.func91, Tryz.ntmps91
      go_wp2
      go_ret2
      exact refEnc_mk r w _ he.out
    · have c5 : 57343 < r := by omega
      clear h2
      go_enter Tryz.func91, Tryz.ntmps91
      go_wp2
      go_ret2
      exact refEnc_mk r w _ he.out
  · have he := Lib.hid (Lib.encodeRuneZ_four (r := r) (by omega) h1)
    clear h2
    go_enter Tryz.func91, Tryz.ntmps91
    go_wp2
    go_ret2
    exact refEnc_mk r w _ he.out

theorem D_encB (r : Int) (h : isSign r) : D (encB r) = (r.toNat, (encB r).length) := by
  obtain ⟨h0, h1, h2⟩ := h
  by_cases c1 : r ≤ 127
  · unfold encB; rw [Lib.encodeRuneZ_one h0 c1]
    unfold D Lib.decodeN
    simp
    repeat' split
    all_goals first | (exfalso; omega) | (refine Prod.ext ?_ ?_ <;> dsimp only <;> omega) | skip
  by_cases c2 : r ≤ 2047
  · unfold encB; rw [Lib.encodeRuneZ_two (by omega) c2]
    unfold D Lib.decodeN
    simp
    repeat' split
    all_goals first | (exfalso; omega) | (refine Prod.ext ?_ ?_ <;> dsimp only <;> omega) | skip
  by_cases c3 : r ≤ 65535
  · unfold encB; rw [Lib.encodeRuneZ_three (by omega)]
    unfold D Lib.decodeN
    simp
    repeat' split
    all_goals first | (exfalso; omega) | (refine Prod.ext ?_ ?_ <;> dsimp only <;> omega) | skip
  · unfold encB; rw [Lib.encodeRuneZ_four (by omega) h1]
    unfold D Lib.decodeN
    simp
    repeat' split
    all_goals first | (exfalso; omega) | (refine Prod.ext ?_ ?_ <;> dsimp only <;> omega) | skip

theorem encB_length (r : Int) : 1 ≤ (encB r).length ∧ (encB r).length ≤ 4 := by
  have := Lib.encodeRuneZ_length r
  simpa [encB] using this
theorem encB_good (r : Int) (h : isSign r) : ¬ isBad (encB r) := by
  unfold isBad
  rw [D_encB r h]
  dsimp only
  rintro ⟨h1, h2⟩
  have hr : r = 65533 := by have := h.1; omega
  subst hr
  revert h2
  decide
end Go.Proofs.YtinajnkjfhbmkaaGreatDoor

namespace Go.Proofs.YtinajnkjfhbmkaaGreatDoor
open Go Go.Proofs Go.RowKit Go.Shelf

theorem drewN_below (w : World) (k : Nat) : Below w.heap.size w (w.drewN k) := ⟨rfl, rfl, rfl, Nat.le_refl _, fun _ _ => rfl⟩

/-- What so many bytes tell, if they were a sign. -/
def val2 (b0 b1 : Int) : Int := b0 % 32 * 64 + b1 % 64
def val3 (b0 b1 b2 : Int) : Int := b0 % 16 * 4096 + b1 % 64 * 64 + b2 % 64
def val4 (b0 b1 b2 b3 : Int) : Int := b0 % 8 * 262144 + b1 % 64 * 4096 + b2 % 64 * 64 + b3 % 64

set_option maxHeartbeats 1000000 in
theorem value1_any (b off cap : Nat) (x0 : Int) (w : World) (c0 : w.cell? ⟨b, off, none⟩ = some (.int .u8 x0)) (h0 : 0 ≤ x0) (g0 : x0 ≤ 255) :
    Calls Tryz.prog 90 #[.slice (some ⟨b, off, none⟩) 1 cap] w fun e w' => e = .returned (.int .i64 x0) ∧ w' = w := by
  go_enter Tryz.func90, Tryz.ntmps90
  go_wp2
  go_ret
  exact ⟨rfl, rfl⟩

set_option maxHeartbeats 1000000 in
theorem value2_any (b off cap : Nat) (x0 x1 : Int) (w : World) (c0 : w.cell? ⟨b, off, none⟩ = some (.int .u8 x0)) (c1 : w.cell? ⟨b, off + 1, none⟩ = some (.int .u8 x1)) (h0 : 0 ≤ x0) (g0 : x0 ≤ 255) (h1 : 0 ≤ x1) (g1 : x1 ≤ 255) :
    Calls Tryz.prog 90 #[.slice (some ⟨b, off, none⟩) 2 cap] w fun e w' => e = .returned (.int .i64 (val2 x0 x1)) ∧ Below w.heap.size w w' := by
  have mixed : Tryz.prog.follows .mixedOrders = true := by kernel_rfl
  go_enter Tryz.func90, Tryz.ntmps90
  go_wp2
  go_quiet (fail)
  go_wp2
  go_ret
  exact ⟨rfl, drewN_below _ _⟩

set_option maxHeartbeats 1000000 in
theorem value3_any (b off cap : Nat) (x0 x1 x2 : Int) (w : World) (c0 : w.cell? ⟨b, off, none⟩ = some (.int .u8 x0)) (c1 : w.cell? ⟨b, off + 1, none⟩ = some (.int .u8 x1)) (c2 : w.cell? ⟨b, off + 2, none⟩ = some (.int .u8 x2))
    (h0 : 0 ≤ x0) (g0 : x0 ≤ 255) (h1 : 0 ≤ x1) (g1 : x1 ≤ 255) (h2 : 0 ≤ x2) (g2 : x2 ≤ 255) :
    Calls Tryz.prog 90 #[.slice (some ⟨b, off, none⟩) 3 cap] w fun e w' => e = .returned (.int .i64 (val3 x0 x1 x2)) ∧ Below w.heap.size w w' := by
  have mixed : Tryz.prog.follows .mixedOrders = true := by kernel_rfl
  go_enter Tryz.func90, Tryz.ntmps90
  go_wp2
  go_quiet (fail)
  go_wp2
  go_ret
  exact ⟨rfl, drewN_below _ _⟩

set_option maxHeartbeats 1000000 in
theorem value4_any (b off cap : Nat) (x0 x1 x2 x3 : Int) (w : World) (c0 : w.cell? ⟨b, off, none⟩ = some (.int .u8 x0)) (c1 : w.cell? ⟨b, off + 1, none⟩ = some (.int .u8 x1)) (c2 : w.cell? ⟨b, off + 2, none⟩ = some (.int .u8 x2)) (c3 : w.cell? ⟨b, off + 3, none⟩ = some (.int .u8 x3))
    (h0 : 0 ≤ x0) (g0 : x0 ≤ 255) (h1 : 0 ≤ x1) (g1 : x1 ≤ 255) (h2 : 0 ≤ x2) (g2 : x2 ≤ 255) (h3 : 0 ≤ x3) (g3 : x3 ≤ 255) :
    Calls Tryz.prog 90 #[.slice (some ⟨b, off, none⟩) 4 cap] w fun e w' => e = .returned (.int .i64 (val4 x0 x1 x2 x3)) ∧ Below w.heap.size w w' := by
  have mixed : Tryz.prog.follows .mixedOrders = true := by kernel_rfl
  go_enter Tryz.func90, Tryz.ntmps90
  go_wp2
  go_quiet (fail)
  go_wp2
  go_ret
  exact ⟨rfl, drewN_below _ _⟩

def at8 (l : List UInt8) (i : Nat) : Int := ((l.getD i 0).toNat : Int)
theorem at8_bounds (l : List UInt8) (i : Nat) : 0 ≤ at8 l i ∧ at8 l i ≤ 255 := by
  have := (l.getD i 0).toNat_lt
  unfold at8
  omega
/-- What the first n bytes tell, if they were a sign. -/
def valL (l : List UInt8) (n : Nat) : Int :=
  if n = 1 then at8 l 0 else if n = 2 then val2 (at8 l 0) (at8 l 1) else if n = 3 then val3 (at8 l 0) (at8 l 1) (at8 l 2) else val4 (at8 l 0) (at8 l 1) (at8 l 2) (at8 l 3)

theorem value_any (l : List UInt8) (b off cap n : Nat) (h1 : 1 ≤ n) (h4 : n ≤ 4) (hn : n ≤ l.length) (w : World) (hh : Holds w b off l) :
    Calls Tryz.prog 90 #[.slice (some ⟨b, off, none⟩) n cap] w fun e w' => e = .returned (.int .i64 (valL l n)) ∧ Below w.heap.size w w' := by
  have : n = 1 ∨ n = 2 ∨ n = 3 ∨ n = 4 := by omega
  have b0 := at8_bounds l 0
  have b1 := at8_bounds l 1
  have b2 := at8_bounds l 2
  have b3 := at8_bounds l 3
  rcases this with rfl | rfl | rfl | rfl
  · exact (value1_any b off cap (at8 l 0) w (hh 0 (by omega)) b0.1 b0.2).mono fun e w' ⟨he, hw⟩ => ⟨he, by rw [hw]; exact Below.refl _ _⟩
  · exact value2_any b off cap (at8 l 0) (at8 l 1) w (hh 0 (by omega)) (hh 1 (by omega)) b0.1 b0.2 b1.1 b1.2
  · exact value3_any b off cap (at8 l 0) (at8 l 1) (at8 l 2) w (hh 0 (by omega)) (hh 1 (by omega)) (hh 2 (by omega)) b0.1 b0.2 b1.1 b1.2 b2.1 b2.2
  · exact value4_any b off cap (at8 l 0) (at8 l 1) (at8 l 2) (at8 l 3) w (hh 0 (by omega)) (hh 1 (by omega)) (hh 2 (by omega)) (hh 3 (by omega)) b0.1 b0.2 b1.1 b1.2 b2.1 b2.2 b3.1 b3.2

/-- The first n bytes are a sign's. -/
def fit (l : List UInt8) (n : Nat) : Prop := isSign (valL l n) ∧ encB (valL l n) = l.take n

theorem fit_good (l : List UInt8) (n : Nat) (hn : n ≤ l.length) (h : fit l n) : ¬ isBad l ∧ (D l).2 = n ∧ ((D l).1 : Int) = valL l n := by
  obtain ⟨hs, he⟩ := h
  have hg := encB_good _ hs
  have hd := D_encB _ hs
  have hl := encB_length (valL l n)
  have hle : (encB (valL l n)).length = n := by rw [he]; simp; omega
  have hda := D_append (encB (valL l n)) (l.drop n) (by omega) hg
  have hll : encB (valL l n) ++ l.drop n = l := by rw [he]; exact List.take_append_drop n l
  rw [hll, hd, hle] at hda
  refine ⟨?_, by rw [hda], ?_⟩
  · unfold isBad at hg ⊢
    rw [hda]
    rw [hd, hle] at hg
    exact hg
  · rw [hda]
    have := hs.1
    dsimp only
    omega

theorem list1 (l : List UInt8) (h : 1 ≤ l.length) : l.take 1 = [l.getD 0 0] := by
  match l, h with
  | a :: _, _ => rfl
theorem list2 (l : List UInt8) (h : 2 ≤ l.length) : l.take 2 = [l.getD 0 0, l.getD 1 0] := by
  match l, h with
  | a :: b :: _, _ => rfl
theorem list3 (l : List UInt8) (h : 3 ≤ l.length) : l.take 3 = [l.getD 0 0, l.getD 1 0, l.getD 2 0] := by
  match l, h with
  | a :: b :: c :: _, _ => rfl
theorem list4 (l : List UInt8) (h : 4 ≤ l.length) : l.take 4 = [l.getD 0 0, l.getD 1 0, l.getD 2 0, l.getD 3 0] := by
  match l, h with
  | a :: b :: c :: d :: _, _ => rfl
theorem byte_of (u : UInt8) (x : Int) (h : x = (u.toNat : Int)) : UInt8.ofNat x.toNat = u := by
  subst h
  simp

theorem fit1 (l : List UInt8) (h : 1 ≤ l.length) (c0 : (l.getD 0 0).toNat < 128) : fit l 1 := by
  have e : valL l 1 = (((l.getD 0 0).toNat : Nat) : Int) := by simp [valL, at8]
  unfold fit
  rw [e]
  refine ⟨⟨by omega, by omega, by omega⟩, ?_⟩
  unfold encB
  rw [Lib.encodeRuneZ_one (by omega) (by omega), list1 l h]
  simp only [List.map_cons, List.map_nil]
  rw [byte_of (l.getD 0 0) _ rfl]
theorem fit2 (l : List UInt8) (h : 2 ≤ l.length) (c0 : (l.getD 0 0).toNat / 32 = 6) (c1 : (l.getD 1 0).toNat / 64 = 2) (c : (l.getD 0 0).toNat % 32 * 64 + (l.getD 1 0).toNat % 64 ≥ 128) : fit l 2 := by
  have e : valL l 2 = (((l.getD 0 0).toNat % 32 * 64 + (l.getD 1 0).toNat % 64 : Nat) : Int) := by simp [valL, val2, at8]
  unfold fit
  rw [e]
  refine ⟨⟨by omega, by omega, by omega⟩, ?_⟩
  unfold encB
  rw [Lib.encodeRuneZ_two (by omega) (by omega), list2 l h]
  simp only [List.map_cons, List.map_nil]
  rw [byte_of (l.getD 0 0) _ (by omega), byte_of (l.getD 1 0) _ (by omega)]
theorem fit3 (l : List UInt8) (h : 3 ≤ l.length) (c0 : (l.getD 0 0).toNat / 16 = 14) (c1 : (l.getD 1 0).toNat / 64 = 2) (c2 : (l.getD 2 0).toNat / 64 = 2)
    (c : (l.getD 0 0).toNat % 16 * 4096 + (l.getD 1 0).toNat % 64 * 64 + (l.getD 2 0).toNat % 64 ≥ 2048 ∧ ((l.getD 0 0).toNat % 16 * 4096 + (l.getD 1 0).toNat % 64 * 64 + (l.getD 2 0).toNat % 64 < 55296 ∨ 57344 ≤ (l.getD 0 0).toNat % 16 * 4096 + (l.getD 1 0).toNat % 64 * 64 + (l.getD 2 0).toNat % 64)) : fit l 3 := by
  have e : valL l 3 = (((l.getD 0 0).toNat % 16 * 4096 + (l.getD 1 0).toNat % 64 * 64 + (l.getD 2 0).toNat % 64 : Nat) : Int) := by simp [valL, val3, at8]
  unfold fit
  rw [e]
  refine ⟨⟨by omega, by omega, by omega⟩, ?_⟩
  unfold encB
  rw [Lib.encodeRuneZ_three (by omega), list3 l h]
  simp only [List.map_cons, List.map_nil]
  rw [byte_of (l.getD 0 0) _ (by omega), byte_of (l.getD 1 0) _ (by omega), byte_of (l.getD 2 0) _ (by omega)]
theorem fit4 (l : List UInt8) (h : 4 ≤ l.length) (c0 : (l.getD 0 0).toNat / 8 = 30) (c1 : (l.getD 1 0).toNat / 64 = 2) (c2 : (l.getD 2 0).toNat / 64 = 2) (c3 : (l.getD 3 0).toNat / 64 = 2)
    (c : (l.getD 0 0).toNat % 8 * 262144 + (l.getD 1 0).toNat % 64 * 4096 + (l.getD 2 0).toNat % 64 * 64 + (l.getD 3 0).toNat % 64 ≥ 65536 ∧ (l.getD 0 0).toNat % 8 * 262144 + (l.getD 1 0).toNat % 64 * 4096 + (l.getD 2 0).toNat % 64 * 64 + (l.getD 3 0).toNat % 64 ≤ 1114111) : fit l 4 := by
  have e : valL l 4 = (((l.getD 0 0).toNat % 8 * 262144 + (l.getD 1 0).toNat % 64 * 4096 + (l.getD 2 0).toNat % 64 * 64 + (l.getD 3 0).toNat % 64 : Nat) : Int) := by simp [valL, val4, at8]
  unfold fit
  rw [e]
  refine ⟨⟨by omega, by omega, by omega⟩, ?_⟩
  unfold encB
  rw [Lib.encodeRuneZ_four (by omega) (by omega), list4 l h]
  simp only [List.map_cons, List.map_nil]
  rw [byte_of (l.getD 0 0) _ (by omega), byte_of (l.getD 1 0) _ (by omega), byte_of (l.getD 2 0) _ (by omega), byte_of (l.getD 3 0) _ (by omega)]

set_option maxRecDepth 100000 in
set_option maxHeartbeats 4000000 in
theorem good_fit (l : List UInt8) (h0 : 0 < l.length) (hb : ¬ isBad l) : fit l (D l).2 := by
  have l0 := (l.getD 0 0).toNat_lt
  have l1 := (l.getD 1 0).toNat_lt
  have l2 := (l.getD 2 0).toNat_lt
  have l3 := (l.getD 3 0).toNat_lt
  have hdl := D_bounds l h0
  unfold isBad at hb
  revert hb hdl
  unfold D Lib.decodeN
  repeat' split
  all_goals (dsimp only; intro hdl hb)
  all_goals first | (exfalso; omega) | (exact fit1 l (by omega) (by omega)) | (exact fit2 l (by omega) (by omega) (by omega) (by omega)) | (exact fit3 l (by omega) (by omega) (by omega) (by omega) (by omega)) | (exact fit4 l (by omega) (by omega) (by omega) (by omega) (by omega) (by omega))

end Go.Proofs.YtinajnkjfhbmkaaGreatDoor

namespace Go.Proofs.YtinajnkjfhbmkaaGreatDoor
open Go Go.Proofs Go.RowKit Go.Shelf

/-- The first sign and its width; (0, 0): there is none. -/
def firstR (l : List UInt8) : Int × Int := if isBad l then (0, 0) else ((D l).1, (D l).2)

theorem ret_pair {k : IntKind} {a b c d : Int} (h : a = c) (h' : b = d) : Ending.returned (.tuple #[.int k a, .int k b]) = .returned (.tuple #[.int k c, .int k d]) := by rw [h, h']

theorem conv_at {W X : World} {b off n cap : Nat} {l : List UInt8} (hn : n ≤ l.length) (hh : Holds W b off l) (hX : X.heap = W.heap) :
    (convert 97 9 (.slice (some ⟨b, off, none⟩) n cap)).run Tryz.prog X = .ok (.string ⟨(l.take n).toArray⟩) X := by
  have hl : (l.take n).length = n := by simp; omega
  have := run_convert_bytes_back (P := Tryz.prog) X 97 9 5 ⟨b, off, none⟩ cap (l.take n) Tryz.underlying97 Tryz.underlying5 Tryz.underlying9 (fun j hj => by
    rw [hl] at hj
    rw [add_none]
    have h1 := hh j (by omega)
    have h2 : X.cell? ⟨b, off + j, none⟩ = W.cell? ⟨b, off + j, none⟩ := by simp only [World.cell?, hX]
    rw [h2, h1]
    simp [List.getD_eq_getElem?_getD, List.getElem?_eq_getElem (show j < l.length by omega)])
  rwa [hl] at this

set_option maxRecDepth 100000 in
set_option maxHeartbeats 4000000 in
theorem rfirst_any (b off cap : Nat) (l : List UInt8) (h0 : 0 < l.length) (hlen : l.length ≤ 140737488351232) (hcap : l.length ≤ cap) (w : World) (hb : b < w.heap.size) (hh : Holds w b off l) :
    Calls Tryz.prog 78 #[.slice (some ⟨b, off, none⟩) l.length cap] w fun e w' => e = .returned (.tuple #[.int .i64 (firstR l).1, .int .i64 (firstR l).2]) ∧ Below w.heap.size w w' := by
  have mixed : Tryz.prog.follows .mixedOrders = true := by kernel_rfl
  have HF := Lib.hid (fun n hn h => fit_good l n hn h)
  have HG := Lib.hid (good_fit l h0)
  have HD := Lib.hid (D_bounds l h0)
  have HH := Lib.hid hh
  clear hh
  go_enter Tryz.func78, Tryz.ntmps78
  go_wp2
  go_loopw [4] (fun i wr => ∃ n : Nat, 1 ≤ n ∧ n ≤ 5 ∧ n ≤ l.length + 1 ∧ i = .int .i64 n ∧ Hid (∀ k, 1 ≤ k → k < n → ¬ fit l k) ∧ Below w.heap.size w wr)
    (fun i _ => 5 - (intOf i).toNat)
  case atStart => exact ⟨1, Nat.le_refl _, by omega, by omega, rfl, Lib.hid (fun k h1 h2 => absurd h1 (by omega)), Below.refl _ _⟩
  case round =>
    obtain ⟨n, hn1, hn5, hnl, rfl, HN, hB⟩ := hrel
    by_cases c4 : n ≤ 4
    · by_cases cl : n ≤ l.length
      · have hhr : Holds wr b off l := HH.out.below hb hB
        have cV := value_any l b off cap n hn1 c4 cl wr hhr
        have HHR := Lib.hid hhr
        clear hhr
        have hcn : n ≤ cap := by omega
        obtain ⟨r, hr⟩ : ∃ r, valL l n = r := ⟨_, rfl⟩
        rw [hr] at cV
        have HR := Lib.hid hr
        clear hr
        by_cases hs : isSign r
        · have cE := refEnc_ok r hs
          unfold RefEnc at cE
          go_wp2_with (first | (go_at_call 90; refine cV.mono ?_; rintro e w1 ⟨rfl, hb1⟩) | (go_at_call 91; refine (cE _).mono ?_; rintro e w2 ⟨rfl, rfl⟩))
          have hbX : Below w.heap.size w (w1.alloc (.cells (cells8 (encB r)).toArray 5)) := (hB.trans (hb1.mono hB.size)).alloc (by have := hB.size; have := hb1.size; omega) _
          have hhX : Holds (w1.alloc (.cells (cells8 (encB r)).toArray 5)) b off l := HH.out.below hb hbX
          have hhE : Holds (w1.alloc (.cells (cells8 (encB r)).toArray 5)) w1.heap.size 0 (encB r) := by
            intro j hj
            have hnw := World.alloc_heap_new w1 (.cells (cells8 (encB r)).toArray 5)
            simp only [World.cell?, hnw]
            simp [cells8, List.getD_eq_getElem?_getD, List.getElem?_eq_getElem hj]
          obtain ⟨X, hX⟩ : ∃ X, w1.alloc (.cells (cells8 (encB r)).toArray 5) = X := ⟨_, rfl⟩
          rw [hX] at hbX hhX hhE ⊢
          have k1 := fun N => conv_at (X := X.drewN N) (cap := (encB r).length) (Nat.le_refl _) hhE rfl
          have k2 := fun N => conv_at (X := X.drewN N) (cap := cap) cl hhX rfl
          rw [List.take_length] at k1
          obtain ⟨s1, hs1⟩ : ∃ s1, (⟨(encB r).toArray⟩ : ByteArray) = s1 := ⟨_, rfl⟩
          obtain ⟨s2, hs2⟩ : ∃ s2, (⟨(l.take n).toArray⟩ : ByteArray) = s2 := ⟨_, rfl⟩
          have hiff : s1 = s2 ↔ fit l n := by
            rw [← hs1, ← hs2]
            unfold fit
            rw [HR.out]
            constructor
            · intro e
              have e2 : (encB r).toArray = (l.take n).toArray := congrArg ByteArray.data e
              exact ⟨hs, by simpa using congrArg Array.toList e2⟩
            · intro e
              rw [e.2]
          have HI := Lib.hid hiff
          simp only [hs1] at k1
          simp only [hs2] at k2
          have HBX := Lib.hid hbX
          clear hs1 hs2 hhX hhE hX hiff cV cE hbX hs
          by_cases heq : s1 = s2
          · subst heq
            have hfit := HI.out.1 rfl
            have HA := Lib.hid (HF.out n cl hfit)
            clear hfit
            go_quiet (fail)
            go_wp2
            go_ret2
            refine ⟨ret_pair ?_ ?_, HBX.out.trans ((drewN_below X _).mono HBX.out.size)⟩
            · unfold firstR
              rw [if_neg HA.out.1]
              rw [← HR.out, ← HA.out.2.2]
            · unfold firstR
              rw [if_neg HA.out.1, HA.out.2.1]
          · have hne : (s1.toList == s2.toList) = false := by
              rw [beq_eq_false_iff_ne]
              intro e
              rw [ByteArray.toList_eq, ByteArray.toList_eq] at e
              exact heq (ByteArray.ext (Array.toList_inj.mp e))
            have HE := Lib.hid heq
            clear heq
            go_quiet (fail)
            go_wp2
            go_roundw
            case rel =>
              refine ⟨n + 1, by omega, by omega, by omega, by go_num, Lib.hid (fun k h1 h2 hf => ?_), HBX.out.trans ((drewN_below X _).mono HBX.out.size)⟩
              by_cases hk : k < n
              · exact HN.out k h1 hk hf
              · obtain rfl : k = n := by omega
                exact HE.out (HI.out.2 hf)
            case measure => simp [intOf]; omega
        · have cE := refEnc_bad r hs
          have HS := Lib.hid hs
          clear hs
          go_wp2_with (first | (go_at_call 90; refine cV.mono ?_; rintro e w1 ⟨rfl, hb1⟩) | (go_at_call 91; refine (cE _).mono ?_; rintro e w2 ⟨rfl, rfl⟩))
          have hbX := hB.trans (hb1.mono hB.size)
          have HBX := Lib.hid hbX
          clear hbX cV cE
          go_quiet (fail)
          go_wp2
          go_roundw
          case rel =>
            refine ⟨n + 1, by omega, by omega, by omega, by go_num, Lib.hid (fun k h1 h2 hf => ?_), HBX.out.trans ((drewN_below _ _).mono HBX.out.size)⟩
            by_cases hk : k < n
            · exact HN.out k h1 hk hf
            · obtain rfl : k = n := by omega
              exact HS.out (by rw [← HR.out]; exact hf.1)
          case measure => simp [intOf]; omega
      · have hfr : isBad l := by
          rcases Classical.em (isBad l) with h | h
          · exact h
          · exact absurd (HG.out h) (HN.out _ HD.out.1 (by have := HD.out.2.2.1; omega))
        have HFR := Lib.hid hfr
        clear hfr
        go_wp2
        go_ret2
        refine ⟨ret_pair ?_ ?_, hB⟩
        · unfold firstR
          rw [if_pos HFR.out]
        · unfold firstR
          rw [if_pos HFR.out]
    · have hfr : isBad l := by
        rcases Classical.em (isBad l) with h | h
        · exact h
        · exact absurd (HG.out h) (HN.out _ HD.out.1 (by have := HD.out.2.1; omega))
      have HFR := Lib.hid hfr
      clear hfr
      go_wp2
      go_ret2
      refine ⟨ret_pair ?_ ?_, hB⟩
      · unfold firstR
        rw [if_pos HFR.out]
      · unfold firstR
        rw [if_pos HFR.out]

end Go.Proofs.YtinajnkjfhbmkaaGreatDoor

namespace Go.Proofs.YtinajnkjfhbmkaaGreatDoor
open Go Go.Proofs Go.RowKit Go.Shelf

theorem info3 : (Tryz.prog.info? 3).map (fun i => (i.zero, i.size, i.bytes)) = some (some (.int .i64 0), 1, 8) := by kernel_rfl

def placesV (xs : List (Nat × Nat)) : List Value := xs.map fun x => Value.int .i64 (x.1 : Int)
def runesV (xs : List (Nat × Nat)) : List Value := xs.map fun x => Value.int .i64 (x.2 : Int)

/-- Two rows of numbers of the call's own, in two blocks. -/
def TwoRows (B : Nat) (W : World) (v1 v2 : Value) (xs : List (Nat × Nat)) : Prop :=
  W.ownsRow B 3 1 v1 xs.length (placesV xs) ∧ W.ownsRow B 3 1 v2 xs.length (runesV xs) ∧ v1.ownBlock ≠ v2.ownBlock

def SignsPost (l : List UInt8) (w : World) (e : Ending) (w' : World) : Prop :=
  ∃ v1 v2, e = .returned (.tuple #[v1, v2, .int .i64 (bd l 0 : Nat)]) ∧ TwoRows w.heap.size w' v1 v2 (sg l 0) ∧ Below w.heap.size w w'

theorem row_keep {W W' : World} {B : Nat} {v : Value} {n : Nat} {xs : List Value} {row : Option Nat} (h : W.ownsRow B 3 1 v n xs) (hg : W.grownBy W' row) (hne : v.ownBlock ≠ row ∨ v.ownBlock = none) : W'.ownsRow B 3 1 v n xs := by
  refine ⟨h.1, ?_⟩
  rcases h.2 with e | ⟨g, cap, cur, e, hb, hg2, rest⟩
  · exact .inl e
  · refine .inr ⟨g, cap, cur, e, hb, ?_, rest⟩
    rw [hg.block g (Array.getElem?_eq_some_iff.1 hg2).1 (by subst e; rcases hne with h | h; exact h; cases h)]
    exact hg2

theorem row_alloc {W : World} {B : Nat} {v : Value} {n : Nat} {xs : List Value} (h : W.ownsRow B 3 1 v n xs) (o : Obj) : (W.alloc o).ownsRow B 3 1 v n xs := by
  refine row_keep h (World.grownBy_alloc _ _ none) ?_
  rcases hv : v.ownBlock with _ | g
  · exact Or.inr rfl
  · exact Or.inl (by simp)

theorem TwoRows.below {W W' : World} {B : Nat} {v1 v2 : Value} {xs : List (Nat × Nat)} (h : TwoRows B W v1 v2 xs) (hb : Below W.heap.size W W') : TwoRows B W' v1 v2 xs := by
  have hg := grown_of_below hb
  refine ⟨row_keep h.1 hg ?_, row_keep h.2.1 hg ?_, h.2.2⟩
  · rcases hv : v1.ownBlock with _ | g
    · exact Or.inr rfl
    · exact Or.inl (by simp)
  · rcases hv : v2.ownBlock with _ | g
    · exact Or.inr rfl
    · exact Or.inl (by simp)

set_option maxRecDepth 100000 in
set_option maxHeartbeats 4000000 in
theorem signs_any (a : Option Addr) (len cap : Nat) (l : List UInt8) (hlen : l.length ≤ 1048576) (w : World) (hI : TextAt w.heap.size w (.slice a len cap) l) :
    Calls Tryz.prog 71 #[.slice a len cap] w (SignsPost l w) := by
  have hll : len = l.length := by
    rcases hI with ⟨_, _, _, e, rfl⟩ | ⟨_, _, _, e, _⟩
    · cases e; rfl
    · cases e; rfl
  subst hll
  have HI := Lib.hid hI
  clear hI
  go_enter Tryz.func71, Tryz.ntmps71
  go_wp2
  go_loopw [5, 6, 7] (fun s5 s6 i wr => ∃ (k : Nat) (pre : List (Nat × Nat)), k ≤ l.length ∧ i = .int .i64 k ∧ pre.length ≤ k ∧ Hid (sg l 0 = pre ++ sg (l.drop k) k ∧ bd l 0 = bd (l.drop k) k) ∧ Hid (TwoRows w.heap.size wr s5 s6 pre) ∧ Below w.heap.size w wr)
    (fun _ _ i _ => l.length - (intOf i).toNat)
  case atStart =>
    refine ⟨0, [], Nat.zero_le _, rfl, Nat.le_refl _, Lib.hid ⟨by simp, by simp⟩, Lib.hid ⟨?_, ?_, ?_⟩, ((Below.refl _ w).alloc (Nat.le_refl _) _).alloc (by simp) _⟩
    · exact row_keep (World.ownsRow_made w #[] 0 (Nat.le_refl _) (Nat.zero_le _) (by simp)) (World.grownBy_alloc _ _ none) (Or.inl (by simp [Value.ownBlock]))
    · have := World.ownsRow_made (base := w.heap.size) (e := 3) (size := 1) (w.alloc (.cells #[] 3)) #[] 0 (by simp) (Nat.zero_le _) (by simp)
      simpa [placesV, runesV] using this
    · simp [Value.ownBlock]
  case round =>
    obtain ⟨k, pre, hk, rfl, hpk, HS, HR, hB⟩ := hrel
    by_cases hlt : k < l.length
    · have hI2 := HI.out.below hB
      rcases hI2 with ⟨_, _, _, e, rfl⟩ | ⟨b, off, cap', e, hb, hcap, hh⟩
      · simp at hlt
      · cases e
        have hbW : b < w.heap.size := hb
        have cF := rfirst_any b (off + k) (cap - k) (l.drop k) (by simp; omega) (by simp; omega) (by simp; omega) wr (by have := hB.size; omega) (hh.drop k)
        rw [List.length_drop] at cF
        have hD := D_bounds (l.drop k) (by simp; omega)
        rw [List.length_drop] at hD
        have hkc : k < cap := by omega
        by_cases hbad : isBad (l.drop k)
        · have hf : firstR (l.drop k) = (0, 0) := by unfold firstR; rw [if_pos hbad]
          rw [hf] at cF
          have HE := Lib.hid (sg_bad (l.drop k) k hbad)
          have HE2 := Lib.hid (bd_bad (l.drop k) k hbad)
          clear hf hbad hh hb
          go_wp2_with (go_at_call 78; refine cF.mono ?_; rintro e w1 ⟨rfl, hb1⟩)
          go_ret3
          have hpre : sg l 0 = pre := by rw [HS.out.1, HE.out, List.append_nil]
          have hbd : bd l 0 = k := by rw [HS.out.2, HE2.out]
          refine ⟨u5, u6, by rw [hbd]; rfl, by rw [hpre]; exact HR.out.below hb1, hB.trans (hb1.mono hB.size)⟩
        · have hf : firstR (l.drop k) = (((D (l.drop k)).1 : Int), ((D (l.drop k)).2 : Int)) := by unfold firstR; rw [if_neg hbad]
          rw [hf] at cF
          have HE := Lib.hid (sg_cons (l.drop k) k (by simp; omega) hbad)
          have HE2 := Lib.hid (bd_cons (l.drop k) k (by simp; omega) hbad)
          obtain ⟨r, hr⟩ : ∃ r, (D (l.drop k)).1 = r := ⟨_, rfl⟩
          obtain ⟨m, hm⟩ : ∃ m, (D (l.drop k)).2 = m := ⟨_, rfl⟩
          rw [hr, hm] at hD HE
          rw [hm] at HE2
          dsimp only at cF
          rw [hr, hm] at cF
          clear hf hbad hh hb hr hm
          have hm0 : ((m : Int) == 0) = false := by simp; omega
          obtain ⟨i3, hi, hz0, hz1, hz2⟩ := info_parts info3
          have hB' := hB.size
          go_wp2_with (first | (go_at_call 78; refine cF.mono ?_; rintro e w1 ⟨rfl, hb1⟩) | (at_builtin; refine wpList_append_own_at _ rfl _ _ 32 rfl w.heap.size 3 i3 (.int .i64 0) 1 8 Tryz.underlying32 hi hz0 hz1 hz2 rfl (by decide) _ pre.length (placesV pre) rfl ?qa0 ⟨w1.heap.size, 0, none⟩ 1 1 [.int .i64 (k : Int)] rfl rfl (cell_one_new _ _ _) (by simp [Value.oneCell']) ?qa1 ?qa2 ?qa3 ?_))
          case qa0 => exact row_alloc (HR.out.below hb1).1 _
          case qa1 => unfold maxLen; omega
          case qa2 => omega
          case qa3 => have := hb1.size; simp; omega
          have hR1 := HR.out.below hb1
          intro v1 W1 hown1 hg1 _ hat1
          have hsz1 := hb1.size
          have hbX : Below w.heap.size w (w1.alloc (.cells #[.int .i64 (k : Int)] 3)) := (hB.trans (hb1.mono hB.size)).alloc (by omega) _
          have hbW1 : Below w.heap.size w W1 := hbX.grown hg1 hbX.size (fun g hg => (hR1.1.lt g hg).1)
          have r2 : W1.ownsRow w.heap.size 3 1 u6 pre.length (runesV pre) := row_keep (row_alloc hR1.2.1 _) hg1 (Or.inl (fun e => hR1.2.2 e.symm))
          have hne1 : v1.ownBlock ≠ u6.ownBlock ∨ u6.ownBlock = none := by
            rcases hu : u6.ownBlock with _ | g
            · exact Or.inr rfl
            · left
              have hlt6 := (hR1.2.1.lt g hu).2
              rcases hat1 with h | h
              · rw [h, ← hu]; exact hR1.2.2
              · rw [h]
                intro e
                simp only [Option.some.injEq] at e
                omega
          have HR1 := Lib.hid hR1
          have HO1 := Lib.hid hown1
          have HO2 := Lib.hid r2
          have HN1 := Lib.hid hne1
          have hsW1 := hbW1.size
          clear hR1 hown1 r2 hne1 hg1 hat1 hbX
          go_wp2_with (at_builtin; refine wpList_append_own_at _ rfl _ _ 32 rfl w.heap.size 3 i3 (.int .i64 0) 1 8 Tryz.underlying32 hi hz0 hz1 hz2 rfl (by decide) _ pre.length (runesV pre) rfl ?qb0 ⟨W1.heap.size, 0, none⟩ 1 1 [.int .i64 (r : Int)] rfl rfl (cell_one_new _ _ _) (by simp [Value.oneCell']) ?qb1 ?qb2 ?qb3 ?_)
          case qb0 => exact row_alloc HO2.out _
          case qb1 => unfold maxLen; omega
          case qb2 => omega
          case qb3 => simp; omega
          intro v2 W2 hown2 hg2 _ hat2
          have HN2 : v1.ownBlock ≠ v2.ownBlock := by
            obtain ⟨g, c1, hv1⟩ := ownsRow_succ HO1.out
            have hg1 : v1.ownBlock = some g := by rw [hv1]; rfl
            have hglt := (HO1.out.lt g hg1).2
            rcases hat2 with h | h
            · rw [h]
              rcases HN1.out with hn | hn
              · exact hn
              · rw [hn, hg1]; simp
            · rw [h, hg1]
              intro e
              simp only [Option.some.injEq] at e
              omega
          have r1 : W2.ownsRow w.heap.size 3 1 v1 (pre.length + 1) (placesV pre ++ [.int .i64 (k : Int)]) := row_keep (row_alloc HO1.out _) hg2 (by
            rcases HN1.out with hn | hn
            · exact Or.inl hn
            · rw [hn]
              rcases hv : v1.ownBlock with _ | g
              · exact Or.inr rfl
              · exact Or.inl (by simp))
          have hbW2 : Below w.heap.size w W2 := (hbW1.alloc hbW1.size _).grown hg2 (by simp; omega) (fun g hg => (HO2.out.lt g hg).1)
          have HT2 : Hid (TwoRows w.heap.size W2 v1 v2 (pre ++ [(k, r)])) := Lib.hid ⟨by simpa [placesV] using r1, by simpa [runesV] using hown2, HN2⟩
          clear HN2 r1 hown2 hg2 hat2 HO1 HO2 HN1 HR1 cF
          go_wp2
          go_roundw
          case rel =>
            refine ⟨k + m, pre ++ [(k, r)], by omega, by go_num, by simp; omega, Lib.hid ⟨?_, ?_⟩, HT2, hbW2⟩
            · rw [HS.out.1, HE.out, List.drop_drop]; simp
            · rw [HS.out.2, HE2.out, List.drop_drop]
          case measure => simp [intOf]; omega
    · obtain rfl : k = l.length := by omega
      go_wp2
      go_ret3
      have hpre : sg l 0 = pre := by rw [HS.out.1, sg_nil _ _ (by simp), List.append_nil]
      have hbd : bd l 0 = l.length := by rw [HS.out.2, bd_nil _ _ (by simp)]
      exact ⟨u5, u6, by rw [hbd]; rfl, by rw [hpre]; exact HR.out, hB⟩

end Go.Proofs.YtinajnkjfhbmkaaGreatDoor
