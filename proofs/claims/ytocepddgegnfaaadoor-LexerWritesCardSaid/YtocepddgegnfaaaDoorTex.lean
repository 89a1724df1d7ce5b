/- A token's text of the bytes that it is written in: the program's own function. -/
import Derived.Test.YtocepddgegnfaaaDoorFirst
namespace Go.Proofs.YtocepddgegnfaaaDoor
open Go Go.Proofs Go.RowKit

/-- A string's token stands by itself. -/
theorem strV_take : ∀ (m : Nat) (l v : List UInt8) (n : Nat), l.length ≤ m → strV l = some (v, n) → strV (l.take n) = some (v, n)
  | 0, l, v, n, h, hs => by
    obtain rfl : l = [] := List.length_eq_zero_iff.1 (by omega)
    rw [strV_nil] at hs; cases hs
  | m + 1, [], v, n, h, hs => by rw [strV_nil] at hs; cases hs
  | m + 1, c :: r, v, n, h, hs => by
    simp only [List.length_cons] at h
    rw [strV_cons] at hs
    split at hs
    · rename_i c34
      cases hs
      rw [List.take_succ_cons, strV_cons, if_pos c34]
    · rename_i c34
      split at hs
      · cases hs
      · rename_i c32
        split at hs
        · rename_i c92
          match r, hs, h with
          | [], hs, _ => cases hs
          | d :: r', hs, h =>
            dsimp only at hs
            cases he : escB d with
            | none => rw [he] at hs; cases hs
            | some e =>
              rw [he] at hs
              simp only [Option.map_eq_some_iff, Prod.mk.injEq] at hs
              obtain ⟨y, hy, rfl, rfl⟩ := hs
              have := strV_take m r' y.1 y.2 (by simp at h; omega) hy
              rw [List.take_succ_cons, List.take_succ_cons, strV_cons, if_neg c34, if_neg c32, if_pos c92]
              dsimp only
              rw [he, this]
              rfl
        · rename_i c92
          simp only [Option.map_eq_some_iff, Prod.mk.injEq] at hs
          obtain ⟨y, hy, rfl, rfl⟩ := hs
          have := strV_take m r y.1 y.2 (by omega) hy
          rw [List.take_succ_cons, strV_cons, if_neg c34, if_neg c32, if_neg c92, this]
          rfl

theorem tok_cases {l : List UInt8} {k : Nat} {t : List UInt8} {n : Nat} (h : tok l = some ((k, t), n)) :
    (k = 3 ∧ t = (l.take n).drop 1) ∨ (k = 6 ∧ 2 ≤ n ∧ strV ((l.take n).drop 1) = some (t, n - 1)) ∨ (k ≠ 3 ∧ k ≠ 6 ∧ t = l.take n) := by
  match l, h with
  | [], h => simp [tok] at h
  | c :: r, h =>
    rw [tok] at h
    split at h
    · split at h
      · cases h; exact .inr (.inr ⟨by decide, by decide, rfl⟩)
      · cases h
    split at h
    · simp only [Option.map_eq_some_iff] at h
      obtain ⟨x, hx, e⟩ := h
      have h1 := strV_le r.length r x (Nat.le_refl _) hx
      have h2 := strV_take r.length r x.1 x.2 (Nat.le_refl _) hx
      cases e
      right; left
      refine ⟨rfl, by omega, ?_⟩
      rw [List.take_succ_cons, List.drop_succ_cons, List.drop_zero, Nat.add_sub_cancel]
      exact h2
    split at h
    · split at h
      · cases h
      · cases h
        left
        exact ⟨rfl, by rw [List.take_succ_cons]; rfl⟩
    split at h
    · split at h
      · cases h
      · cases h; exact .inr (.inr ⟨by decide, by decide, rfl⟩)
    split at h
    · cases h
      right; right
      refine ⟨?_, ?_, rfl⟩ <;> (split <;> decide)
    split at h
    · cases h; exact .inr (.inr ⟨by decide, by decide, rfl⟩)
    split at h
    · cases h
    · cases h; exact .inr (.inr ⟨by decide, by decide, rfl⟩)

theorem ret_str {a b : ByteArray} (h : a = b) : Ending.returned (.string a) = .returned (.string b) := by rw [h]

set_option maxHeartbeats 2000000 in
theorem textOf_any (l : List UInt8) (k : Nat) (t : List UInt8) (n : Nat) (h : tok l = some ((k, t), n)) (s : ByteArray) (hs : s.size ≤ 1048576) (he : tl s = l.take n) (w : World) :
    Calls Tryd.prog 19 #[.int .i64 k, .string s] w fun e w' => e = .returned (.string ⟨t.toArray⟩) ∧ Below w.heap.size w w' := by
  have hle := tok_le h
  have hsz : s.size = n := by rw [← tl_length, he, List.length_take]; omega
  have hc := tok_cases h
  rw [← he] at hc
  have hm := mk_tl s
  rcases hc with ⟨rfl, rfl⟩ | ⟨rfl, h2, hv⟩ | ⟨h3, h6, rfl⟩
  · have HX : Hid (s.extract 1 n = ⟨((tl s).drop 1).toArray⟩) := Lib.hid (by rw [← tl_from, hsz]; exact mk_tl _)
    obtain ⟨T, hT⟩ : ∃ T : ByteArray, ⟨((tl s).drop 1).toArray⟩ = T := ⟨_, rfl⟩
    rw [hT] at HX ⊢
    clear hT hm he h
    go_enter Tryd.func19, Tryd.ntmps19
    go_wp2_with fail
    go_ret
    exact ⟨ret_str HX.out, Below.refl _ _⟩
  · have cU := unq_any s (by omega) (by omega) t (by rw [hv, hsz]) w
    clear hm he h hv
    go_enter Tryd.func19, Tryd.ntmps19
    go_wp2_with (first | (go_at_call 36; refine cU.mono ?_; rintro e w1 ⟨rfl, hb1⟩))
    go_ret
    exact ⟨rfl, hb1⟩
  · have e3 : ((k : Int) == 3) = false := by simp; omega
    have e6 : ((k : Int) == 6) = false := by simp; omega
    rw [← hm]
    clear hm he h h3 h6
    go_enter Tryd.func19, Tryd.ntmps19
    go_wp2_with fail
    go_ret
    exact ⟨rfl, Below.refl _ _⟩

/-- The cells of tokens. -/
def tkV (ts : List Tk) : List Value := ts.flatMap fun t => [.int .i64 (t.1 : Int), .string ⟨t.2.1.toArray⟩, .int .i64 (t.2.2 : Int)]
theorem tkV_append (a b : List Tk) : tkV (a ++ b) = tkV a ++ tkV b := by simp [tkV]
theorem tkV_length (a : List Tk) : (tkV a).length = a.length * 3 := by
  induction a with
  | nil => rfl
  | cons x r ih =>
    have : tkV (x :: r) = [.int .i64 (x.1 : Int), .string ⟨x.2.1.toArray⟩, .int .i64 (x.2.2 : Int)] ++ tkV r := by simp [tkV]
    rw [this, List.length_append, ih]
    simp; omega
theorem info31 : (Tryd.prog.info? 31).map (fun i => (i.zero, i.size, i.bytes)) = some (some (.agg #[.int .i64 0, .string ⟨#[]⟩, .int .i64 0]), 3, 32) := by kernel_rfl

end Go.Proofs.YtocepddgegnfaaaDoor
