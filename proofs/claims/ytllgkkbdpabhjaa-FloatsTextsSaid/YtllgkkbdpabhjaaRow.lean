/- Slices of small numbers that the call made itself, and what is appended to them one by one; no condition. -/
import Derived.Test.YtllgkkbdpabhjaaProg
import Derived.WalkKit
import Derived.WalkLawsBesides
import Derived.Outline
import Derived.Lib.Hide
import Derived.Below
import Derived.ArgAppend
import Derived.OwnWalk
import Derived.Laws.AppendOwnNone
import Derived.Lib.SlBytesConst
import Derived.Lib.SliceRun
import Derived.Laws.BytesArg
namespace Go.Proofs.Ytllgkkbdpabhjaa
open Go Go.Proofs Go.RowKit

def cN (l : List Nat) : List Value := l.map fun d : Nat => Value.int .u8 (d : Int)
theorem cN_length (l : List Nat) : (cN l).length = l.length := by simp [cN]
theorem cN_append (l m : List Nat) : cN (l ++ m) = cN l ++ cN m := by simp [cN]
theorem cN_one (l : List Nat) : ∀ u ∈ cN l, u.oneCell' = true := by
  intro u hu
  simp only [cN, List.mem_map] at hu
  obtain ⟨c, _, rfl⟩ := hu
  rfl
theorem cN_get (l : List Nat) (j : Nat) (u : Value) (h : (cN l)[j]? = some u) : j < l.length ∧ u = .int .u8 ((l.getD j 0 : Nat) : Int) := by
  simp only [cN, List.getElem?_map, Option.map_eq_some_iff] at h
  obtain ⟨c, hc, rfl⟩ := h
  exact ⟨(List.getElem?_eq_some_iff.1 hc).1, by simp [List.getD_eq_getElem?_getD, hc]⟩
theorem cN_at (l : List Nat) (j : Nat) (h : j < l.length) : (cN l)[j]? = some (.int .u8 ((l.getD j 0 : Nat) : Int)) := by
  simp [cN, List.getD_eq_getElem?_getD, List.getElem?_eq_getElem h]
theorem add_none (b off j : Nat) : (⟨b, off, none⟩ : Addr).add j = ⟨b, off + j, none⟩ := by
  unfold Addr.add; split <;> simp_all

/-- The value is a slice that holds these numbers; it lies below n₀. -/
def RowAt (n₀ : Nat) (w : World) (v : Value) (l : List Nat) : Prop :=
  (∃ a cap, (a = none → cap = 0) ∧ v = .slice a 0 cap ∧ l = []) ∨
  ∃ b off cap, v = .slice (some ⟨b, off, none⟩) l.length cap ∧ b < n₀ ∧ l.length ≤ cap ∧ ∀ j, j < l.length → w.cell? ⟨b, off + j, none⟩ = some (.int .u8 ((l.getD j 0 : Nat) : Int))

theorem RowAt.below {n₀ : Nat} {A B : World} {v : Value} {l : List Nat} (hb : Below n₀ A B) : RowAt n₀ A v l → RowAt n₀ B v l
  | .inl e => .inl e
  | .inr ⟨b, off, cap, e, hlt, hc, hh⟩ => .inr ⟨b, off, cap, e, hlt, hc, fun j hj => (hb.cell (p := ⟨b, off + j, none⟩) hlt).trans (hh j hj)⟩
theorem RowAt.more {n m : Nat} {W : World} {v : Value} {l : List Nat} (hn : n ≤ m) : RowAt n W v l → RowAt m W v l
  | .inl e => .inl e
  | .inr ⟨b, off, cap, e, hb, hc, hh⟩ => .inr ⟨b, off, cap, e, Nat.lt_of_lt_of_le hb hn, hc, hh⟩
theorem RowAt.shape {n : Nat} {W : World} {v : Value} {l : List Nat} : RowAt n W v l → ∃ a cap, v = .slice a l.length cap ∧ l.length ≤ cap
  | .inl ⟨a, cap, _, e, hl⟩ => ⟨a, cap, by rw [e, hl]; rfl, by rw [hl]; exact Nat.zero_le _⟩
  | .inr ⟨b, off, cap, e, _, hc, _⟩ => ⟨some ⟨b, off, none⟩, cap, e, hc⟩

theorem row_new (n₀ : Nat) (w : World) (l : List Nat) (cs : Array Value) (fz : Nat × Nat) (hc : cs = (cN l).toArray) (h : w.heap.size < n₀) : RowAt n₀ (w.alloc (.cells cs 5 fz)) (.slice (some ⟨w.heap.size, 0, none⟩) l.length l.length) l := by
  subst hc
  refine .inr ⟨w.heap.size, 0, l.length, rfl, h, Nat.le_refl _, ?_⟩
  intro j hj
  have hn := heap_alloc_new w (.cells (cN l).toArray 5 fz)
  simp only [World.cell?, hn]
  simp [cN, List.getD_eq_getElem?_getD, List.getElem?_eq_getElem hj]

/-- The call's own slice: a constant's, that is full; or a row that grows. -/
def Own (w : World) (base : Nat) (v : Value) (l : List Nat) : Prop :=
  (∃ g, v = .slice (some ⟨g, 0, none⟩) l.length l.length ∧ base ≤ g ∧ g < w.heap.size ∧ ∀ j, j < l.length → w.cell? ⟨g, j, none⟩ = some (.int .u8 ((l.getD j 0 : Nat) : Int))) ∨
  w.ownsRow base 5 1 v l.length (cN l)

theorem Own.row {w : World} {base : Nat} {v : Value} {l : List Nat} : Own w base v l → RowAt w.heap.size w v l
  | .inl ⟨g, e, hb, hg, hh⟩ => .inr ⟨g, 0, l.length, e, hg, Nat.le_refl _, fun j hj => by rw [Nat.zero_add]; exact hh j hj⟩
  | .inr h => by
    rcases h.2 with ⟨rfl, h0⟩ | ⟨g, cap, cur, rfl, hb, hg, hn, _, hcs, _⟩
    · exact .inl ⟨none, 0, fun _ => rfl, rfl, List.length_eq_zero_iff.1 h0⟩
    · refine .inr ⟨g, 0, cap, rfl, (Array.getElem?_eq_some_iff.1 hg).1, hn, fun j hj => ?_⟩
      have := h.cells (g := g) rfl j _ (cN_at l j hj)
      rwa [add_none] at this

theorem Own.lt {w : World} {base : Nat} {v : Value} {l : List Nat} (h : Own w base v l) : ∀ k, v.ownBlock = some k → base ≤ k ∧ k < w.heap.size := by
  rcases h with ⟨g, rfl, hb, hg, hh⟩ | h
  · intro k hk
    simp [Value.ownBlock] at hk
    subst hk
    exact ⟨hb, hg⟩
  · exact h.lt

theorem Own.kept {w w' : World} {base : Nat} {v : Value} {l : List Nat} {row : Option Nat} (h : Own w base v l) (hg : w.grownBy w' row) (hne : v.ownBlock = none ∨ v.ownBlock ≠ row) : Own w' base v l := by
  rcases h with ⟨g, rfl, hb, hgs, hh⟩ | h
  · refine .inl ⟨g, rfl, hb, Nat.lt_of_lt_of_le hgs hg.size, fun j hj => ?_⟩
    rw [← hh j hj]
    refine World.cell?_of_block (a := ⟨g, j, none⟩) (hg.block g hgs ?_)
    rcases hne with h | h
    · simp [Value.ownBlock] at h
    · simp [Value.ownBlock] at h; exact fun e => h e
  · exact .inr (h.kept hg hne)

theorem Own.alloc {w : World} {base : Nat} {v : Value} {l : List Nat} (h : Own w base v l) (o : Obj) : Own (w.alloc o) base v l :=
  h.kept (World.grownBy_alloc w o none) (by cases hv : v.ownBlock <;> simp)
theorem Own.drew {w : World} {base : Nat} {v : Value} {l : List Nat} (h : Own w base v l) : Own w.drew base v l := h

theorem own_none (w : World) (base : Nat) : Own w base (.slice none 0 0) [] := .inr (World.ownsRow_nil _ _ _ _)
theorem own_const (w : World) (base : Nat) (hb : base ≤ w.heap.size) (l : List Nat) (cs : Array Value) (fz : Nat × Nat) (hc : cs = (cN l).toArray) : Own (w.alloc (.cells cs 5 fz)) base (.slice (some ⟨w.heap.size, 0, none⟩) l.length l.length) l := by
  subst hc
  refine .inl ⟨w.heap.size, rfl, hb, by simp, fun j hj => ?_⟩
  have hn := heap_alloc_new w (.cells (cN l).toArray 5 fz)
  simp only [World.cell?, hn]
  simp [cN, List.getD_eq_getElem?_getD, List.getElem?_eq_getElem hj]

theorem info_parts {P : Program} {t : TypeId} {z : Value} {n m : Nat} (h : (P.info? t).map (fun i => (i.zero, i.size, i.bytes)) = some (some z, n, m)) : ∃ i, P.info? t = some i ∧ i.zero = some z ∧ i.size = n ∧ i.bytes = m := by
  cases hi : P.info? t with
  | none => rw [hi] at h; cases h
  | some i =>
    rw [hi] at h
    simp at h
    exact ⟨i, rfl, h.1, h.2.1, h.2.2⟩
theorem info5 : (Try.prog.info? 5).map (fun i => (i.zero, i.size, i.bytes)) = some (some (.int .u8 0), 1, 1) := by kernel_rfl

/-- What an append of these numbers leaves. -/
theorem wpList_append_row {t : TypeId} (ht : Try.prog.underlying t = some (.slice 5)) {ops : Array Oper} {rest : List Oper} {o : Oper} {a : Act} {w : World} {Q : Exit → Act → World → Prop} (hgd : o.guard = none) (s x : Operand)
    (ho : o.op = .call { callee := .builtin .append, args := #[s, x], argTypes := #[t, t] }) (base : Nat) (v : Value) (xs : List Nat) (hs : a.eval s = v) (hown : Own w base v xs)
    (B : Nat) (sv : Value) (l : List Nat) (hx : a.eval x = sv) (hI : RowAt B w sv l) (hbytes : xs.length + l.length ≤ 140737488355328) (hbase : base ≤ w.heap.size) (hpos : 0 < l.length ∨ w.ownsRow base 5 1 v xs.length (cN xs))
    (h : ∀ v' w', Own w' base v' (xs ++ l) → w.grownBy w' v.ownBlock → wpList Try.prog ops Q rest (a.put o.dst v') w') : wpList Try.prog ops Q (o :: rest) a w := by
  obtain ⟨i0, hi, hz0, hz1, hz2⟩ := info_parts info5
  have hm : xs.length + l.length ≤ maxLen := by unfold maxLen; omega
  have hll : (xs ++ l).length = xs.length + l.length := List.length_append
  have key : 0 < l.length → (∃ g, v = .slice (some ⟨g, 0, none⟩) xs.length xs.length ∧ base ≤ g ∧ g < w.heap.size ∧ ∀ j, j < xs.length → w.cell? ⟨g, j, none⟩ = some (.int .u8 ((xs.getD j 0 : Nat) : Int))) → wpList Try.prog ops Q (o :: rest) a w := by
    rintro hp ⟨g, rfl, hb, hg, hh⟩
    rcases hI with ⟨A, cap, hA, rfl, rfl⟩ | ⟨b, off, cap, rfl, _, _, hh2⟩
    · cases hp
    · refine wpList_append_grows w hgd s x t ho 5 i0 (.int .u8 0) 1 1 ht hi hz0 hz1 hz2 rfl (by decide) (some ⟨g, 0, none⟩) xs.length xs.length (cN xs) hs (by simp) (by simp [cN_length]) ?_ ⟨b, off, none⟩ l.length cap (cN l) hx (by simp [cN_length]) ?_ (cN_one l) (by omega) hm (by simpa using hbytes) ?_
      · intro b' hb' j u hu
        obtain ⟨hj, rfl⟩ := cN_get xs j u hu
        obtain rfl := Option.some.inj hb'
        rw [add_none, Nat.zero_add]
        exact hh j hj
      · intro j u hu
        obtain ⟨hj, rfl⟩ := cN_get l j u hu
        rw [add_none]
        exact hh2 j hj
      · intro v' w' h1 h2
        refine h v' w' (.inr ?_) ⟨h2.os, h2.tape, h2.output, h2.size, fun k hk _ => h2.block k hk (by simp)⟩
        rw [cN_append, hll]
        refine ⟨h1.1, ?_⟩
        rcases h1.2 with hn | ⟨g, cap, cur, e1, e2, hr⟩
        · exact .inl hn
        · exact .inr ⟨g, cap, cur, e1, Nat.le_trans hbase e2, hr⟩
  have main : w.ownsRow base 5 1 v xs.length (cN xs) → wpList Try.prog ops Q (o :: rest) a w := by
    intro hown
    rcases hI with ⟨A, cap, hA, rfl, rfl⟩ | ⟨b, off, cap, rfl, _, _, hh⟩
    · rcases A with _ | ad
      · obtain rfl := hA rfl
        exact wpList_append_own_none hgd s x t ho base 5 i0 1 ht hi v xs.length (cN xs) hs hown hx (h v w (.inr (by simpa using hown)) (World.grownBy.refl w _))
      · exact wpList_append_own w hgd s x t ho base 5 i0 (.int .u8 0) 1 1 ht hi hz0 hz1 hz2 rfl (by decide) v xs.length (cN xs) hs hown ad 0 cap [] hx rfl (by simp) (by simp) hm (by simpa using hbytes) hbase
          (fun v' w' h1 h2 _ => h v' w' (.inr (by simpa using h1)) h2)
    · refine wpList_append_own w hgd s x t ho base 5 i0 (.int .u8 0) 1 1 ht hi hz0 hz1 hz2 rfl (by decide) v xs.length (cN xs) hs hown ⟨b, off, none⟩ l.length cap (cN l) hx (by simp [cN_length]) ?_ (cN_one l) hm (by simpa using hbytes) hbase
          (fun v' w' h1 h2 _ => h v' w' (.inr (by rw [cN_append, hll]; exact h1)) h2)
      intro j u hu
      obtain ⟨hj, rfl⟩ := cN_get l j u hu
      rw [add_none]
      exact hh j hj
  rcases hown with hc | hown
  · rcases hpos with hp | hown
    · exact key hp hc
    · exact main hown
  · exact main hown

/-- The string of these bytes. -/
def strN (l : List Nat) : ByteArray := ⟨(l.map fun d => UInt8.ofNat d).toArray⟩
theorem conv_row {t : TypeId} (ht : Try.prog.underlying t = some (.slice 5)) {n₀ : Nat} {w : World} {v : Value} {l : List Nat} (hl : 0 < l.length) (h : RowAt n₀ w v l) : (convert t 9 v).run Try.prog w = .ok (.string (strN l)) w := by
  rcases h with ⟨_, _, _, _, rfl⟩ | ⟨b, off, cap, rfl, _, _, hh⟩
  · cases hl
  · rw [run_convert_bytes_arg w t 5 ht Try.underlying5 b off l.length cap (l.map fun d : Nat => (d : Int)) (by simp) (fun i hi => by rw [hh i hi]; simp [List.getD_eq_getElem?_getD, List.getElem?_eq_getElem hi]) 9 Try.underlying9]
    unfold strN strOfNums
    simp [List.map_map, Function.comp_def]
end Go.Proofs.Ytllgkkbdpabhjaa
