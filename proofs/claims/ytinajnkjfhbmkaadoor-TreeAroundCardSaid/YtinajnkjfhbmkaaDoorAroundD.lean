/- What a statement of several calls keeps: iterators and rows of numbers behind new blocks; TreeAround's last two statements. -/
import Derived.Test.YtinajnkjfhbmkaaDoorAroundC
import Derived.Test.YtinajnkjfhbmkaaDoorTag
import Derived.Test.YtinajnkjfhbmkaaDoorSame
namespace Go.Proofs.YtinajnkjfhbmkaaDoor
open Go Go.Proofs Go.RowKit Go.Shelf

/-- An iterator over the numbers l, in the box Bs. -/
def SeqAt (l : List Int) (Bs : Nat) (W : World) : Prop := ∃ b A c, Bs < W.heap.size ∧ b < W.heap.size ∧ W.cell? ⟨Bs, 0, none⟩ = some (.slice A l.length c) ∧ SlAt (fun k => k = b) W A l.length (l.map iv)
theorem SeqAt.below {l : List Int} {Bs : Nat} {w W : World} (h : SeqAt l Bs w) (hb : Below w.heap.size w W) : SeqAt l Bs W := by
  obtain ⟨b, A, c, h1, h2, h3, h4⟩ := h
  exact ⟨b, A, c, Nat.lt_of_lt_of_le h1 hb.size, Nat.lt_of_lt_of_le h2 hb.size, (hb.cell (p := ⟨Bs, 0, none⟩) h1).trans h3, h4.block (hb.block b h2)⟩
theorem SeqAt.alloc {l : List Int} {Bs : Nat} {w : World} (h : SeqAt l Bs w) (o : Obj) : SeqAt l Bs (w.alloc o) := h.below ((Below.refl _ w).alloc (Nat.le_refl _) o)
theorem SeqAt.drew {l : List Int} {Bs : Nat} {w : World} (h : SeqAt l Bs w) : SeqAt l Bs w.drew := h.below (Below.refl _ w).drew

theorem allAt_any (l : List Int) (Bs : Nat) (W : World) (h : SeqAt l Bs W) (hl : l.length ≤ 65536) : Calls Tryd.prog 12 #[.func (.func 49) #[] #[.pointer (some ⟨Bs, 0, none⟩)]] W (CopyPost W l.length (l.map iv)) := by
  obtain ⟨b, A, c, h1, h2, h3, h4⟩ := h
  exact allSeq_any Bs b A c l hl W h1 h2 h3 h4

/-- The numbers l lie at A, in a block from lo on, below hi. -/
def RowI (lo hi : Nat) (l : List Int) (A : Option Addr) (W : World) : Prop := hi ≤ W.heap.size ∧ (l = [] ∨ ∃ b off, A = some ⟨b, off, none⟩ ∧ lo ≤ b ∧ b < hi ∧ ∀ j u, (l.map iv)[j]? = some u → W.cell? ⟨b, off + j, none⟩ = some u)
theorem RowI.rd {lo hi : Nat} {l : List Int} {A : Option Addr} {W : World} (h : RowI lo hi l A W) : RdAt W A (l.map iv) := by
  rcases h.2 with rfl | ⟨b, off, e, _, _, h⟩
  · exact .inl rfl
  · exact .inr ⟨b, off, e, h⟩
theorem RowI.below {lo hi : Nat} {l : List Int} {A : Option Addr} {w W : World} (h : RowI lo hi l A w) (hb : Below w.heap.size w W) : RowI lo hi l A W := by
  refine ⟨Nat.le_trans h.1 hb.size, ?_⟩
  rcases h.2 with rfl | ⟨b, off, e, h1, h2, h3⟩
  · exact .inl rfl
  · exact .inr ⟨b, off, e, h1, h2, fun j u hu => (hb.cell (p := ⟨b, off + j, none⟩) (Nat.lt_of_lt_of_le h2 h.1)).trans (h3 j u hu)⟩
theorem RowI.alloc {lo hi : Nat} {l : List Int} {A : Option Addr} {w : World} (h : RowI lo hi l A w) (o : Obj) : RowI lo hi l A (w.alloc o) := h.below ((Below.refl _ w).alloc (Nat.le_refl _) o)
theorem RowI.drew {lo hi : Nat} {l : List Int} {A : Option Addr} {w : World} (h : RowI lo hi l A w) : RowI lo hi l A w.drew := h.below (Below.refl _ w).drew
theorem RowI.of_sl {l : List Int} {A : Option Addr} {n : Nat} {w : World} {B : Nat} (h : SlAt (fun b => B ≤ b ∧ b < w.heap.size) w A n (l.map iv)) : RowI B w.heap.size l A w := by
  refine ⟨Nat.le_refl _, ?_⟩
  rcases Nat.eq_zero_or_pos n with rfl | hn
  · have : l.map iv = [] := List.eq_nil_of_length_eq_zero h.1
    exact .inl (by simpa using this)
  · obtain ⟨b, off, e, hb, hc⟩ := h.2 hn
    exact .inr ⟨b, off, e, hb.1, hb.2, hc⟩
theorem RowI.far {lo hi g : Nat} {l : List Int} {A : Option Addr} {w W : World} (h : RowI lo hi l A w) (hg : w.grownBy W (some g)) (hne : g < lo ∨ hi ≤ g) : RowI lo hi l A W := by
  refine ⟨Nat.le_trans h.1 hg.size, ?_⟩
  rcases h.2 with rfl | ⟨b, off, e, h1, h2, h3⟩
  · exact .inl rfl
  · exact .inr ⟨b, off, e, h1, h2, fun j u hu => (hg.cell_far ⟨b, off + j, none⟩ (Nat.lt_of_lt_of_le h2 h.1) (by simp; omega)).trans (h3 j u hu)⟩

section
variable {w : World} {ops : Array Oper} {o : Oper} {a : Act} {K : Act → World → Prop} {Q : Exit → Act → World → Prop} {E : Prop}
/-- Numbers behind a number; another row stays. -/
theorem step_cons (hgd : Region.wanted o (yielded ops a.tmps) = true) (s x : Operand) (ho : o.op = .call { callee := .builtin .append, args := #[s, x], argTypes := #[29, 29] }) (B : Nat) (k : Int) (g : Nat) (A : Option Addr) (c : Nat) (l : List Int) (m lo hi : Nat)
    (hs : a.eval s = .slice (some ⟨g, 0, none⟩) 1 1) (hx : a.eval x = .slice A m c) (hm : l.length = m) (hb : Blk w g 3 #[.int .i64 k]) (hg : B ≤ g) (hl : RowI lo hi l A w) (hn : l.length ≤ 65536) (hB : B ≤ w.heap.size) (lo' hi' : Nat) (l' : List Int) (A' : Option Addr) (hr : RowI lo' hi' l' A' w) (hne : g < lo' ∨ hi' ≤ g)
    (h : ∀ A'' c' w', RdAt w' A'' ((k :: l).map iv) → Below B w w' → RowI lo' hi' l' A' w' → K (a.put o.dst (.slice A'' (m + 1) c')) w') :
    if Region.wanted o (yielded ops a.tmps) = true then Oper.wp Tryd.prog o a w K Q else E := by
  obtain ⟨i0, hi0, hz0, hz1, hz2⟩ := info_parts info3
  rw [if_pos hgd]
  have hown : w.ownsRow B 3 1 (.slice (some ⟨g, 0, none⟩) 1 1) 1 [.int .i64 k] := ⟨rfl, .inr ⟨g, 1, #[.int .i64 k], rfl, hg, hb, Nat.le_refl _, by decide, rfl, rfl⟩⟩
  subst hm
  refine owp_app w s x 29 ho B 3 i0 (.int .i64 0) 1 8 Tryd.underlying29 hi0 hz0 hz1 hz2 rfl (by decide) _ 1 [.int .i64 k] hs hown A l.length c (l.map iv) hx (by simp) hl.rd (by intro u hu; obtain ⟨z, _, rfl⟩ := List.mem_map.1 hu; rfl) (by unfold maxLen; omega) (by omega) hB fun v' w' h1 h2 _ => ?_
  rw [Nat.add_comm] at h1
  obtain ⟨A2, c2, rfl, _, h3⟩ := SlAt.of_own h1
  exact h A2 c2 w' (RowI.of_sl (l := k :: l) h3).rd ((Below.refl _ w).grown h2 hB (fun j e => by simp [Value.ownBlock] at e; omega)) (hr.far h2 hne)
end

/-- Are two rows the same? The lengths in whatever spelling. -/
theorem same_at (A1 A2 : Option Addr) (n1 n2 c1 c2 : Nat) (xs ys : List Int) (w : World) (h1 : RdAt w A1 (xs.map iv)) (h2 : RdAt w A2 (ys.map iv)) (hx : xs.length = n1) (hy : ys.length = n2) (bx : n1 ≤ 70000) (b_y : n2 ≤ 70000) (he : xs = ys) :
    Calls Tryd.prog 11 #[.slice A1 n1 c1, .slice A2 n2 c2] w fun e w' => e = .returned (.bool true) ∧ Below w.heap.size w w' := by
  subst hx hy
  have := same_any A1 A2 c1 c2 xs ys w h1 h2 (by omega) (by omega)
  rwa [decide_eq_true he] at this
end Go.Proofs.YtinajnkjfhbmkaaDoor
