/- The bytes of a sign, as the document's answer has them, at every number. -/
import Derived.Test.YtidmeodmkcomlaaGreatDoorIterB
import Derived.OwnWalk
import Derived.Laws.AppendOwnNone
import Derived.Lib.SliceRun
import Derived.Lib.RuneBytes
namespace Go.Proofs.YtidmeodmkcomlaaGreatDoor
open Go Go.Proofs Go.RowKit Go.Shelf

def cells8 (l : List UInt8) : List Value := l.map fun c => Value.int .u8 (c.toNat : Int)
theorem info5 : (Tryz.prog.info? 5).map (fun i => (i.zero, i.size, i.bytes)) = some (some (.int .u8 0), 1, 1) := by kernel_rfl

theorem cells8_length (l : List UInt8) : (cells8 l).length = l.length := by simp [cells8]
theorem cells8_append (l m : List UInt8) : cells8 (l ++ m) = cells8 l ++ cells8 m := by simp [cells8]
theorem cells8_one (l : List UInt8) : ∀ u ∈ cells8 l, u.oneCell' = true := by
  intro u hu
  simp only [cells8, List.mem_map] at hu
  obtain ⟨c, _, rfl⟩ := hu
  rfl
theorem cells8_get (l : List UInt8) (j : Nat) (u : Value) (h : (cells8 l)[j]? = some u) : j < l.length ∧ u = .int .u8 ((l.getD j 0).toNat : Int) := by
  simp only [cells8, List.getElem?_map, Option.map_eq_some_iff] at h
  obtain ⟨c, hc, rfl⟩ := h
  have hj := (List.getElem?_eq_some_iff.1 hc).1
  exact ⟨hj, by simp [List.getD_eq_getElem?_getD, hc]⟩
theorem add_none (b off j : Nat) : (⟨b, off, none⟩ : Addr).add j = ⟨b, off + j, none⟩ := by
  unfold Addr.add; split <;> simp_all

theorem wpList_append_text {ops : Array Oper} {rest : List Oper} {o : Oper} {a : Act} {w : World} {Q : Exit → Act → World → Prop} (hgd : o.guard = none) (s x : Operand)
    (ho : o.op = .call { callee := .builtin .append, args := #[s, x], argTypes := #[33, 33] }) (base : Nat) (v : Value) (n : Nat) (xs : List UInt8) (hs : a.eval s = v) (hown : w.ownsRow base 5 1 v n (cells8 xs))
    (B : Nat) (sv : Value) (l : List UInt8) (hx : a.eval x = sv) (hI : TextAt B w sv l) (hbytes : n + l.length ≤ 140737488355328) (hbase : base ≤ w.heap.size)
    (h : ∀ v' w', w'.ownsRow base 5 1 v' (n + l.length) (cells8 (xs ++ l)) → w.grownBy w' v.ownBlock → wpList Tryz.prog ops Q rest (a.put o.dst v') w') : wpList Tryz.prog ops Q (o :: rest) a w := by
  obtain ⟨i0, hi, hz0, hz1, hz2⟩ := info_parts info5
  have hm : n + l.length ≤ maxLen := by unfold maxLen; omega
  rcases hI with ⟨A, cap, hA, rfl, rfl⟩ | ⟨b, off, cap, rfl, _, _, hh⟩
  · rcases A with _ | ad
    · obtain rfl := hA rfl
      exact wpList_append_own_none hgd s x 33 ho base 5 i0 1 Tryz.underlying33 hi v n (cells8 xs) hs hown hx (h v w (by simpa using hown) (World.grownBy.refl w _))
    · exact wpList_append_own w hgd s x 33 ho base 5 i0 (.int .u8 0) 1 1 Tryz.underlying33 hi hz0 hz1 hz2 rfl (by decide) v n (cells8 xs) hs hown ad 0 cap [] hx rfl (by simp) (by simp) hm (by simpa using hbytes) hbase
        (fun v' w' h1 h2 _ => h v' w' (by simpa using h1) h2)
  · refine wpList_append_own w hgd s x 33 ho base 5 i0 (.int .u8 0) 1 1 Tryz.underlying33 hi hz0 hz1 hz2 rfl (by decide) v n (cells8 xs) hs hown ⟨b, off, none⟩ l.length cap (cells8 l) hx (by simp [cells8_length]) ?_ (cells8_one l) hm (by simpa using hbytes) hbase
        (fun v' w' h1 h2 _ => h v' w' (by rw [cells8_append]; exact h1) h2)
    intro j u hu
    obtain ⟨hj, rfl⟩ := cells8_get l j u hu
    rw [add_none]
    exact hh j hj

theorem text_of_owns {w : World} {base : Nat} {v : Value} {n : Nat} {l : List UInt8} (h : w.ownsRow base 5 1 v n (cells8 l)) : TextAt w.heap.size w v l := by
  have hl : l.length = n := by have := h.1; simpa [cells8_length] using this
  rcases h.2 with ⟨rfl, rfl⟩ | ⟨g, cap, cur, rfl, hb, hg, hn, _, hcs, _⟩
  · exact .inl ⟨none, 0, fun _ => rfl, rfl, List.length_eq_zero_iff.1 hl⟩
  · refine .inr ⟨g, 0, cap, by rw [hl], (Array.getElem?_eq_some_iff.1 hg).1, by omega, fun j hj => ?_⟩
    have := h.cells (g := g) rfl j (.int .u8 ((l.getD j 0).toNat : Int)) (by simp [cells8, List.getD_eq_getElem?_getD, List.getElem?_eq_getElem hj])
    rwa [add_none] at this

theorem textIn_of_owns {w : World} {base : Nat} {v : Value} {n : Nat} {l : List UInt8} (h0 : 0 < w.heap.size) (h : w.ownsRow base 5 1 v n (cells8 l)) : ∃ b, TextIn b w v l ∧ b < w.heap.size ∧ (base ≤ b ∨ b = 0) := by
  have hl : l.length = n := by have := h.1; simpa [cells8_length] using this
  rcases h.2 with ⟨rfl, rfl⟩ | ⟨g, cap, cur, rfl, hb, hg, hn, _, hcs, _⟩
  · exact ⟨0, .inl ⟨none, 0, fun _ => rfl, rfl, List.length_eq_zero_iff.1 hl⟩, h0, .inr rfl⟩
  · refine ⟨g, .inr ⟨0, cap, by rw [hl], by omega, fun j hj => ?_⟩, (Array.getElem?_eq_some_iff.1 hg).1, .inl hb⟩
    have := h.cells (g := g) rfl j (.int .u8 ((l.getD j 0).toNat : Int)) (by simp [cells8, List.getD_eq_getElem?_getD, List.getElem?_eq_getElem hj])
    rwa [add_none] at this

theorem TextAt.more {n m : Nat} {W : World} {sv : Value} {l : List UInt8} (hn : n ≤ m) : TextAt n W sv l → TextAt m W sv l
  | .inl e => .inl e
  | .inr ⟨b, off, cap, e, hb, hc, hh⟩ => .inr ⟨b, off, cap, e, Nat.lt_of_lt_of_le hb hn, hc, hh⟩

/-- The number is a sign's. -/
def isSign (r : Int) : Prop := 0 ≤ r ∧ r ≤ 1114111 ∧ ¬ (55296 ≤ r ∧ r ≤ 57343)
/-- Its bytes. -/
def encB (r : Int) : List UInt8 := (Lib.encodeRuneZ r).map fun x => UInt8.ofNat x.toNat

theorem cells_encB (r : Int) : cells8 (encB r) = Lib.runeCells r := by
  unfold cells8 encB Lib.runeCells
  rw [List.map_map]
  apply List.map_congr_left
  intro x hx
  have := Lib.encodeRuneZ_byte r x hx
  simp
  omega

theorem text_new (n₀ : Nat) (w : World) (l : List UInt8) (cs : Array Value) (hc : cs = (cells8 l).toArray) (h : w.heap.size < n₀) : TextAt n₀ (w.alloc (.cells cs 5)) (.slice (some ⟨w.heap.size, 0, none⟩) l.length l.length) l := by
  subst hc
  refine .inr ⟨w.heap.size, 0, l.length, rfl, h, Nat.le_refl _, ?_⟩
  intro j hj
  have hn := World.alloc_heap_new w (.cells (cells8 l).toArray 5)
  simp only [World.cell?, hn]
  simp [cells8, List.getD_eq_getElem?_getD, List.getElem?_eq_getElem hj]

/-- What the document's answer leaves for a sign. -/
def RefEnc (r : Int) (w : World) (e : Ending) (w' : World) : Prop :=
  e = .returned (.tuple #[.slice (some ⟨w.heap.size, 0, none⟩) (encB r).length (encB r).length, .bool true]) ∧ w' = w.alloc (.cells (cells8 (encB r)).toArray 5)

set_option maxHeartbeats 2000000 in
theorem refEnc_bad (r : Int) (h : ¬ isSign r) (w : World) :
    Calls Tryz.prog 122 #[.int .i64 r] w fun e w' => e = .returned (.tuple #[.slice none 0 0, .bool false]) ∧ w' = w := by
  unfold isSign at h
  by_cases c1 : r < 0
  · clear h
    go_enter Tryz.func122, Tryz.ntmps122
    go_wp2
    go_ret2
    exact ⟨rfl, rfl⟩
  · by_cases c2 : 1114111 < r
    · clear h
      go_enter Tryz.func122, Tryz.ntmps122
      go_wp2
      go_ret2
      exact ⟨rfl, rfl⟩
    · have c3 : 55296 ≤ r := by omega
      have c4 : r ≤ 57343 := by omega
      clear h
      go_enter Tryz.func122, Tryz.ntmps122
      go_wp2
      go_ret2
      exact ⟨rfl, rfl⟩

theorem refEnc_mk (r : Int) (w : World) (zs : List Int) (h : Lib.encodeRuneZ r = zs) : RefEnc r w (.returned (.tuple #[.slice (some ⟨w.heap.size, 0, none⟩) zs.length zs.length, .bool true])) (w.alloc (.cells (zs.map fun x => Value.int .u8 x).toArray 5)) := by
  unfold RefEnc
  rw [cells_encB]
  unfold Lib.runeCells encB
  rw [h]
  simp

set_option maxHeartbeats 2000000 in
theorem refEnc_ok (r : Int) (h : isSign r) (w : World) : Calls Tryz.prog 122 #[.int .i64 r] w (RefEnc r w) := by
  obtain ⟨h0, h1, h2⟩ := h
  by_cases c1 : r ≤ 127
  · have he := Lib.hid (Lib.encodeRuneZ_one h0 c1)
    clear h2
    go_enter Tryz.func122, Tryz.ntmps122
    go_wp2
    go_ret2
    exact refEnc_mk r w _ he.out
  by_cases c2 : r ≤ 2047
  · have he := Lib.hid (Lib.encodeRuneZ_two (r := r) (by omega) c2)
    clear h2
    go_enter Tryz.func122, Tryz.ntmps122
    go_wp2
    go_ret2
    exact refEnc_mk r w _ he.out
  by_cases c3 : r ≤ 65535
  · have he := Lib.hid (Lib.encodeRuneZ_three (r := r) (by omega))
    by_cases c4 : r < 55296
    · clear h2
      go_enter Tryz.func122, Tryz.ntmps122
      go_wp2
      go_ret2
      exact refEnc_mk r w _ he.out
    · have c5 : 57343 < r := by omega
      clear h2
      go_enter Tryz.func122, Tryz.ntmps122
      go_wp2
      go_ret2
      exact refEnc_mk r w _ he.out
  · have he := Lib.hid (Lib.encodeRuneZ_four (r := r) (by omega) h1)
    clear h2
    go_enter Tryz.func122, Tryz.ntmps122
    go_wp2
    go_ret2
    exact refEnc_mk r w _ he.out

theorem D_encB (r : Int) (h : isSign r) : D (encB r) = (r.toNat, (encB r).length) := by
  obtain ⟨h0, h1, h2⟩ := h
  by_cases c1 : r ≤ 127
  · unfold encB; rw [Lib.encodeRuneZ_one h0 c1]
    unfold D Lib.decodeN
    simp
    repeat' split
    all_goals first | (exfalso; omega) | (refine Prod.ext ?_ ?_ <;> dsimp only <;> omega) | skip
  by_cases c2 : r ≤ 2047
  · unfold encB; rw [Lib.encodeRuneZ_two (by omega) c2]
    unfold D Lib.decodeN
    simp
    repeat' split
    all_goals first | (exfalso; omega) | (refine Prod.ext ?_ ?_ <;> dsimp only <;> omega) | skip
  by_cases c3 : r ≤ 65535
  · unfold encB; rw [Lib.encodeRuneZ_three (by omega)]
    unfold D Lib.decodeN
    simp
    repeat' split
    all_goals first | (exfalso; omega) | (refine Prod.ext ?_ ?_ <;> dsimp only <;> omega) | skip
  · unfold encB; rw [Lib.encodeRuneZ_four (by omega) h1]
    unfold D Lib.decodeN
    simp
    repeat' split
    all_goals first | (exfalso; omega) | (refine Prod.ext ?_ ?_ <;> dsimp only <;> omega) | skip

theorem encB_length (r : Int) : 1 ≤ (encB r).length ∧ (encB r).length ≤ 4 := by
  have := Lib.encodeRuneZ_length r
  simpa [encB] using this
theorem encB_good (r : Int) (h : isSign r) : ¬ isBad (encB r) := by
  unfold isBad
  rw [D_encB r h]
  dsimp only
  rintro ⟨h1, h2⟩
  have hr : r = 65533 := by have := h.1; omega
  subst hr
  revert h2
  decide
end Go.Proofs.YtidmeodmkcomlaaGreatDoor
