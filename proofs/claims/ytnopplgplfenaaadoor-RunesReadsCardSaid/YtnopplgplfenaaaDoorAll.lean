/- What is appended to bytes of the call's own; the copy of a text; All, at every text within the reach. -/
import Derived.Test.YtnopplgplfenaaaDoorLives
import Derived.OwnWalk
import Derived.Lib.SliceRun
namespace Go.Proofs.YtnopplgplfenaaaDoor
open Go Go.Proofs Go.RowKit Go.Shelf

theorem info5 : (Tryd.prog.info? 5).map (fun i => (i.zero, i.size, i.bytes)) = some (some (.int .u8 0), 1, 1) := by kernel_rfl

theorem cells8_length (l : List UInt8) : (cells8 l).length = l.length := by simp [cells8]
theorem cells8_append (l m : List UInt8) : cells8 (l ++ m) = cells8 l ++ cells8 m := by simp [cells8]
theorem cells8_one (l : List UInt8) : ∀ u ∈ cells8 l, u.oneCell' = true := by
  intro u hu
  simp only [cells8, List.mem_map] at hu
  obtain ⟨c, _, rfl⟩ := hu
  rfl
theorem cells8_get (l : List UInt8) (j : Nat) (u : Value) (h : (cells8 l)[j]? = some u) : j < l.length ∧ u = .int .u8 ((l.getD j 0).toNat : Int) := by
  simp only [cells8, List.getElem?_map, Option.map_eq_some_iff] at h
  obtain ⟨c, hc, rfl⟩ := h
  have hj := (List.getElem?_eq_some_iff.1 hc).1
  exact ⟨hj, by simp [List.getD_eq_getElem?_getD, hc]⟩
theorem add_none (b off j : Nat) : (⟨b, off, none⟩ : Addr).add j = ⟨b, off + j, none⟩ := by
  unfold Addr.add; split <;> simp_all

theorem wpList_append_text {ops : Array Oper} {rest : List Oper} {o : Oper} {a : Act} {w : World} {Q : Exit → Act → World → Prop} (hgd : o.guard = none) (s x : Operand)
    (ho : o.op = .call { callee := .builtin .append, args := #[s, x], argTypes := #[22, 22] }) (base : Nat) (v : Value) (n : Nat) (xs : List UInt8) (hs : a.eval s = v) (hown : w.ownsRow base 5 1 v n (cells8 xs))
    (B : Nat) (sv : Value) (l : List UInt8) (hx : a.eval x = sv) (hI : TextAt B w sv l) (hbytes : n + l.length ≤ 140737488355328) (hbase : base ≤ w.heap.size)
    (h : ∀ v' w', w'.ownsRow base 5 1 v' (n + l.length) (cells8 (xs ++ l)) → w.grownBy w' v.ownBlock → wpList Tryd.prog ops Q rest (a.put o.dst v') w') : wpList Tryd.prog ops Q (o :: rest) a w := by
  obtain ⟨i0, hi, hz0, hz1, hz2⟩ := info_parts info5
  have hm : n + l.length ≤ maxLen := by unfold maxLen; omega
  rcases hI with ⟨A, cap, hA, rfl, rfl⟩ | ⟨b, off, cap, rfl, _, _, hh⟩
  · rcases A with _ | ad
    · obtain rfl := hA rfl
      exact wpList_append_own_none hgd s x 22 ho base 5 i0 1 Tryd.underlying22 hi v n (cells8 xs) hs hown hx (h v w (by simpa using hown) (World.grownBy.refl w _))
    · exact wpList_append_own w hgd s x 22 ho base 5 i0 (.int .u8 0) 1 1 Tryd.underlying22 hi hz0 hz1 hz2 rfl (by decide) v n (cells8 xs) hs hown ad 0 cap [] hx rfl (by simp) (by simp) hm (by simpa using hbytes) hbase
        (fun v' w' h1 h2 _ => h v' w' (by simpa using h1) h2)
  · refine wpList_append_own w hgd s x 22 ho base 5 i0 (.int .u8 0) 1 1 Tryd.underlying22 hi hz0 hz1 hz2 rfl (by decide) v n (cells8 xs) hs hown ⟨b, off, none⟩ l.length cap (cells8 l) hx (by simp [cells8_length]) ?_ (cells8_one l) hm (by simpa using hbytes) hbase
        (fun v' w' h1 h2 _ => h v' w' (by rw [cells8_append]; exact h1) h2)
    intro j u hu
    obtain ⟨hj, rfl⟩ := cells8_get l j u hu
    rw [add_none]
    exact hh j hj

theorem text_of_owns {w : World} {base : Nat} {v : Value} {n : Nat} {l : List UInt8} (h : w.ownsRow base 5 1 v n (cells8 l)) : TextAt w.heap.size w v l := by
  have hl : l.length = n := by have := h.1; simpa [cells8_length] using this
  rcases h.2 with ⟨rfl, rfl⟩ | ⟨g, cap, cur, rfl, hb, hg, hn, _, hcs, _⟩
  · exact .inl ⟨none, 0, fun _ => rfl, rfl, List.length_eq_zero_iff.1 hl⟩
  · refine .inr ⟨g, 0, cap, by rw [hl], (Array.getElem?_eq_some_iff.1 hg).1, by omega, fun j hj => ?_⟩
    have := h.cells (g := g) rfl j (.int .u8 ((l.getD j 0).toNat : Int)) (by simp [cells8, List.getD_eq_getElem?_getD, List.getElem?_eq_getElem hj])
    rwa [add_none] at this

theorem textIn_of_owns {w : World} {base : Nat} {v : Value} {n : Nat} {l : List UInt8} (h0 : 0 < w.heap.size) (h : w.ownsRow base 5 1 v n (cells8 l)) : ∃ b, TextIn b w v l ∧ b < w.heap.size ∧ (base ≤ b ∨ b = 0) := by
  have hl : l.length = n := by have := h.1; simpa [cells8_length] using this
  rcases h.2 with ⟨rfl, rfl⟩ | ⟨g, cap, cur, rfl, hb, hg, hn, _, hcs, _⟩
  · exact ⟨0, .inl ⟨none, 0, fun _ => rfl, rfl, List.length_eq_zero_iff.1 hl⟩, h0, .inr rfl⟩
  · refine ⟨g, .inr ⟨0, cap, by rw [hl], by omega, fun j hj => ?_⟩, (Array.getElem?_eq_some_iff.1 hg).1, .inl hb⟩
    have := h.cells (g := g) rfl j (.int .u8 ((l.getD j 0).toNat : Int)) (by simp [cells8, List.getD_eq_getElem?_getD, List.getElem?_eq_getElem hj])
    rwa [add_none] at this

set_option maxRecDepth 100000 in
set_option maxHeartbeats 2000000 in
theorem clone_any (a : Option Addr) (len cap : Nat) (l : List UInt8) (hlen : l.length ≤ 140737488351232) (w : World) (h0 : 0 < w.heap.size) (hI : TextAt w.heap.size w (.slice a len cap) l) :
    Calls Tryd.prog 19 #[.slice a len cap] w fun e w' => (∃ a' len' cap' b, e = .returned (.slice a' len' cap') ∧ TextIn b w' (.slice a' len' cap') l ∧ b < w'.heap.size ∧ (w.heap.size ≤ b ∨ b = 0)) ∧ Below w.heap.size w w' := by
  have q22 : ∀ (w : World) (a : Option Addr) (n c n' c' : Nat), (binOp .eql 22 (.slice a n c) (.slice none n' c')).run Tryd.prog w = .ok (.bool a.isNone) w := fun w a n c n' c' => Lib.run_eql_slice_nil w _ _ a n c n' c' Tryd.underlying22
  rcases a with _ | ad
  · have hl : l = [] := by
      rcases hI with ⟨_, _, _, _, h⟩ | ⟨_, _, _, e, _⟩
      · exact h
      · cases e
    subst hl
    clear hI
    go_enter Tryd.func19, Tryd.ntmps19
    go_wp2
    go_ret
    exact ⟨⟨_, _, _, 0, rfl, .inl ⟨none, 0, fun _ => rfl, rfl, rfl⟩, h0, .inr rfl⟩, Below.refl _ _⟩
  · have hI1 := hI.below ((Below.refl _ w).alloc (Nat.le_refl _) (.cells #[] 5))
    have HI := Lib.hid hI1
    clear hI hI1
    go_enter Tryd.func19, Tryd.ntmps19
    go_wp2_with (at_builtin; refine wpList_append_text rfl _ _ rfl w.heap.size _ 0 [] rfl (World.ownsRow_made w #[] 0 (Nat.le_refl _) (Nat.zero_le _) (by simp)) w.heap.size _ l rfl HI.out ?qc1 ?qc2 ?_)
    case qc1 => omega
    case qc2 => simp
    intro v' w1 hown hgrow
    have hs1 := hgrow.size
    obtain ⟨b, ht, hbl, hbb⟩ := textIn_of_owns (by simp at hs1; omega) hown
    clear hs1
    obtain ⟨a', len', cap', hv⟩ : ∃ a' len' cap', v' = .slice a' len' cap' := by
      rcases hown.2 with ⟨rfl, _⟩ | ⟨_, _, _, rfl, _⟩
      · exact ⟨_, _, _, rfl⟩
      · exact ⟨_, _, _, rfl⟩
    rw [hv] at ht ⊢
    have HT := Lib.hid ht
    have HG := Lib.hid hgrow
    clear ht hown hgrow
    go_wp2
    go_ret
    exact ⟨⟨_, _, _, b, rfl, HT.out, hbl, hbb⟩, ((Below.refl _ w).alloc (Nat.le_refl _) _).grown HG.out (by simp) (by intro k hk; simp [Value.ownBlock] at hk; omega)⟩

theorem TextAt.more {n m : Nat} {W : World} {sv : Value} {l : List UInt8} (hn : n ≤ m) : TextAt n W sv l → TextAt m W sv l
  | .inl e => .inl e
  | .inr ⟨b, off, cap, e, hb, hc, hh⟩ => .inr ⟨b, off, cap, e, Nat.lt_of_lt_of_le hb hn, hc, hh⟩

/-- What All hands back: the iterator, whose box and text lie in the world behind the call. -/
def AllPost (l : List UInt8) (w : World) (e : Ending) (w' : World) : Prop :=
  ∃ Bs b sv, e = .returned (.func (.func 25) #[] #[.pointer (some ⟨Bs, 0, none⟩)]) ∧ w'.cell? ⟨Bs, 0, none⟩ = some sv ∧ TextIn b w' sv l ∧ Bs < w'.heap.size ∧ b < w'.heap.size ∧ w.heap.size ≤ Bs ∧ (w.heap.size ≤ b ∨ b = 0) ∧ Below w.heap.size w w'

theorem mkSigns_any' (sv : Value) (w : World) (h : ∃ a len cap, sv = .slice a len cap) :
    Calls Tryd.prog 17 #[sv] w fun e w' => e = .returned (.func (.func 25) #[] #[.pointer (some ⟨w.heap.size, 0, none⟩)]) ∧ w' = w.alloc (.cells #[sv] 22) := by
  obtain ⟨a, len, cap, rfl⟩ := h
  exact mkSigns_any a len cap w

theorem all_any (a : Option Addr) (len cap : Nat) (l : List UInt8) (hlen : l.length ≤ 140737488351232) (w : World) (h2 : 0 < w.heap.size) (hI : TextAt w.heap.size w (.slice a len cap) l) :
    Calls Tryd.prog 10 #[.slice a len cap] w (AllPost l w) := by
  have hc := clone_any a len cap l hlen w h2 hI
  clear hI
  go_enter Tryd.func10, Tryd.ntmps10
  go_wp2_with (first | (go_at_call 19; refine hc.mono ?_; rintro e w1 ⟨⟨a', len', cap', b, rfl, ht, hbl, hbb⟩, hb⟩; have HT := Lib.hid ht; have HB := Lib.hid hb; clear ht hb) | (go_at_call 17; refine (mkSigns_any _ _ _ _).mono ?_; rintro e w' ⟨rfl, rfl⟩))
  go_ret
  have bS := Boxed.new w1 22 (.slice a' len' cap')
  exact ⟨w1.heap.size, b, .slice a' len' cap', rfl, bS.cell, HT.out.kept (((Below.refl _ w1).alloc (Nat.le_refl _) _).block b hbl), by simp, by simp; omega, HB.out.size, hbb, HB.out.alloc HB.out.size _⟩

end Go.Proofs.YtnopplgplfenaaaDoor
