/- The chapter's example holds. -/
import Derived.Test.YtocepddgegnfaaaDoorLexer
import Derived.Lib.SlBytesConst
import Derived.Deep.QuietTactic
import Derived.BigQuiet
import Derived.Deep.Cut
namespace Go.Proofs.YtocepddgegnfaaaDoor
open Go Go.Proofs Go.RowKit

def exL : List UInt8 := [120, 49, 61, 62, 35, 97]
theorem exBd : bd exL 0 = 6 := by
  unfold exL
  rw [bd_cons _ _ (by decide) (by decide), show (D [120, 49, 61, 62, 35, 97]) = (120, 1) by decide]
  dsimp only [List.drop]
  rw [bd_cons _ _ (by decide) (by decide), show (D [49, 61, 62, 35, 97]) = (49, 1) by decide]
  dsimp only [List.drop]
  rw [bd_cons _ _ (by decide) (by decide), show (D [61, 62, 35, 97]) = (61, 1) by decide]
  dsimp only [List.drop]
  rw [bd_cons _ _ (by decide) (by decide), show (D [62, 35, 97]) = (62, 1) by decide]
  dsimp only [List.drop]
  rw [bd_cons _ _ (by decide) (by decide), show (D [35, 97]) = (35, 1) by decide]
  dsimp only [List.drop]
  rw [bd_cons _ _ (by decide) (by decide), show (D [97]) = (97, 1) by decide]
  dsimp only [List.drop]
  rw [bd_nil _ _ rfl]
theorem lexR_at (c : UInt8) (r : List UInt8) (k : Nat) (t : Nat × List UInt8) (n : Nat) (h : blankB c = false) (hn : noteB (c :: r) = false) (ht : tok (c :: r) = some (t, n)) :
    lexR (c :: r) k = prep [(t.1, t.2, k)] (lexR ((c :: r).drop n) (k + n)) := by
  have hz := skipN_none c r h hn
  have := lexR_some (c :: r) k t n (by rw [hz]; exact ht)
  rw [hz] at this
  simpa using this
def exT : List Tk := [(1, [120, 49], 0), (8, [61, 62], 2), (3, [97], 4), (0, [], 6)]
theorem exLex : lexA exL = .ok exT := by
  have h : lexR exL 0 = .ok exT := by
    unfold exL
    rw [lexR_at 120 _ 0 (1, [120, 49]) 2 (by decide) (by decide) (by decide)]
    dsimp only [List.drop]
    rw [lexR_at 61 _ _ (8, [61, 62]) 2 (by decide) (by decide) (by decide)]
    dsimp only [List.drop]
    rw [lexR_at 35 _ _ (3, [97]) 2 (by decide) (by decide) (by decide)]
    dsimp only [List.drop]
    rw [lexR_end [] _ (by rw [skipN_nil]; rfl), skipN_nil]
    rfl
  unfold lexA
  rw [if_neg (by decide), exBd, if_neg (by decide), h]

theorem ex_new (n₀ : Nat) (w : World) (cs : Array Value) (fz : Nat × Nat) (l : List UInt8) (hc : cs = (cells8 l).toArray) (h : w.heap.size < n₀) : TextAt n₀ (w.alloc (.cells cs 5 fz)) (.slice (some ⟨w.heap.size, 0, none⟩) l.length l.length) l := by
  subst hc
  refine .inr ⟨w.heap.size, 0, l.length, rfl, h, Nat.le_refl _, ?_⟩
  intro j hj
  have hn := World.alloc_heap_new w (.cells (cells8 l).toArray 5 fz)
  simp only [World.cell?, hn]
  simp [cells8, List.getD_eq_getElem?_getD, List.getElem?_eq_getElem hj]

theorem row_cells {W : World} {B : Nat} {e : TypeId} {k : Nat} {v : Value} {n : Nat} {xs : List Value} (h : W.ownsRow B e k v n xs) (h0 : 0 < n) :
    ∃ g cap, v = .slice (some ⟨g, 0, none⟩) n cap ∧ B ≤ g ∧ g < W.heap.size ∧ n ≤ cap ∧ ∀ j u, xs[j]? = some u → W.cell? ⟨g, j, none⟩ = some u := by
  rcases h.2 with ⟨_, e⟩ | ⟨g, cap, cur, e, hb, hg, hn, _⟩
  · omega
  · refine ⟨g, cap, e, hb, (Array.getElem?_eq_some_iff.1 hg).1, hn, fun j u hu => ?_⟩
    have := h.cells (g := g) (by rw [e]; rfl) j u hu
    rwa [add_none, Nat.zero_add] at this

set_option maxRecDepth 100000 in
set_option maxHeartbeats 2000000 in
theorem lives_any (w : World) (hE : Env w) : Calls Tryd.prog 8 #[] w fun e W' => e = .returned (.bool true) ∧ Below w.heap.size w W' := by
  have hsz := hE.size
  obtain ⟨w0, hw0⟩ : ∃ w0, w.alloc (.cells #[.int .u8 120, .int .u8 49, .int .u8 61, .int .u8 62, .int .u8 35, .int .u8 97] 5 (6, 7)) = w0 := ⟨_, rfl⟩
  have hb0 : Below w.heap.size w w0 := by rw [← hw0]; exact (Below.refl _ w).alloc (Nat.le_refl _) _
  have hs0 : w0.heap.size = w.heap.size + 1 := by rw [← hw0]; simp
  have hT : TextAt w0.heap.size w0 (.slice (some ⟨w.heap.size, 0, none⟩) 6 6) exL := by
    rw [← hw0]
    exact ex_new _ w _ (6, 7) exL rfl (by simp)
  have cL := lex_any (some ⟨w.heap.size, 0, none⟩) 6 6 exL w0 (hE.on hb0) rfl hT
  have cL' : Calls Tryd.prog 9 #[.slice (some ⟨w.heap.size, 0, none⟩) 6 6] w0 fun e W' => (∃ g cap, e = .returned (.tuple #[.slice (some ⟨g, 0, none⟩) 4 cap, .agg #[.int .i64 0, .int .i64 0, .string ⟨#[]⟩]]) ∧ g < W'.heap.size ∧ 4 ≤ cap ∧ ∀ j u, (tkV exT)[j]? = some u → W'.cell? ⟨g, j, none⟩ = some u) ∧ Below w0.heap.size w0 W' := by
    refine cL.mono fun e W' h => ?_
    unfold LexPost at h
    rw [exLex] at h
    obtain ⟨⟨v, he, hrow⟩, hb⟩ := h
    obtain ⟨g, cap, hv, _, hg, hn, hc⟩ := row_cells hrow (by decide)
    subst hv
    exact ⟨⟨g, cap, he, hg, hn, hc⟩, hb⟩
  have kc := fun (w : World) (C : Array Value) (n c : Nat) => Lib.run_convert_bytes_const (P := Tryd.prog) w 22 5 C n c Tryd.underlying22 Tryd.underlying5
  clear cL hT
  go_enter Tryd.func8, Tryd.ntmps8
  go_wp2_with fail
  with_reducible refine cL'.mono ?_
  rintro e w1 ⟨⟨g, cap, rfl, hg, hcap, hc⟩, hb1⟩
  clear cL'
  have hX : ∀ (X : World), Below w1.heap.size w1 X → ∀ j u, (tkV exT)[j]? = some u → X.cell? ⟨g, j, none⟩ = some u := fun X hX j u hu => (hX.cell (p := ⟨g, j, none⟩) hg).trans (hc j u hu)
  go_upto_region 2 with fail
  obtain ⟨w2, hw2⟩ : ∃ w2, w1.alloc (.cells #[.int .i64 0, .int .i64 0, .string ⟨#[]⟩] 27) = w2 := ⟨_, rfl⟩
  have hb2 : Below w1.heap.size w1 w2 := by rw [← hw2]; exact (Below.refl _ _).alloc (Nat.le_refl _) _
  have hR2 := resAt_of (show w2.heap[w1.heap.size]? = some (.cells #[.int .i64 0, .int .i64 0, .string ⟨#[]⟩] 27) by rw [← hw2]; exact World.alloc_heap_new _ _)
  obtain ⟨x0, x1, x2, f0, f1, f2⟩ := hR2
  have hf := hX w2 hb2
  have q1 := hf 1 _ rfl
  have q4 := hf 4 _ rfl
  have q6 := hf 6 _ rfl
  have q7 := hf 7 _ rfl
  have q11 := hf 11 _ rfl
  clear hf hX hc
  go_wp2_with fail
  go_ret
  exact ⟨rfl, (hb0.trans (hb1.mono (by omega))).trans (hb2.mono (by have := hb1.size; omega))⟩
end Go.Proofs.YtocepddgegnfaaaDoor
