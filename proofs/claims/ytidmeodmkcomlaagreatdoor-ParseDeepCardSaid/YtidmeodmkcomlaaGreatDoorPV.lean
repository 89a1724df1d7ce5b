/- The chapter's example; rows of sums and of arrows: their tokens, their trees, and the law's walk. -/
import Derived.Test.YtidmeodmkcomlaaGreatDoorPP
import Derived.Test.YtidmeodmkcomlaaGreatDoorRefR
import Derived.Lib.SlBytesConst
import Derived.Deep.QuietTactic
import Derived.BigQuiet
import Derived.Deep.Cut
import Derived.Deep.CutRange
import Derived.BigRegion
namespace Go.Proofs.YtidmeodmkcomlaaGreatDoor
open Go Go.Proofs Go.RowKit

theorem skip_zero' (l : List UInt8) : skipN (l.drop (skipN l)) = 0 := skip_zero l
theorem lexR_at (c : UInt8) (r : List UInt8) (k : Nat) (t : Nat × List UInt8) (n : Nat) (h : blankB c = false) (hn : noteB (c :: r) = false) (ht : tok (c :: r) = some (t, n)) :
    lexR (c :: r) k = prep [(t.1, t.2, k)] (lexR ((c :: r).drop n) (k + n)) := by
  have hz := skipN_none c r h hn
  have := lexR_some (c :: r) k t n (by rw [hz]; exact ht)
  rw [hz] at this
  simpa using this
theorem D_ascii (c : UInt8) (r : List UInt8) (h : c.toNat < 128) : D (c :: r) = (c.toNat, 1) := by
  unfold D Go.Lib.decodeN
  simp only [List.getD_cons_zero, List.length_cons]
  repeat' split
  all_goals first | rfl | (exfalso; omega)
theorem bd_shift (l : List UInt8) (j : Nat) : bd l j = bd l 0 + j := by
  have := (sg_shift l.length l 0 j (Nat.le_refl _)).2
  rwa [Nat.zero_add] at this
theorem ascii_good (c : UInt8) (r : List UInt8) (h : c.toNat < 128) : ¬ isBad (c :: r) := by
  unfold isBad
  rw [D_ascii c r h]
  rintro ⟨h1, _⟩
  dsimp only at h1
  omega
theorem bd_ascii (c : UInt8) (r : List UInt8) (h : c.toNat < 128) : bd (c :: r) 0 = bd r 0 + 1 := by
  rw [bd_cons _ _ (by simp) (ascii_good c r h), D_ascii c r h]
  dsimp only [List.drop]
  rw [bd_shift]
theorem bd_all : ∀ (l : List UInt8), (∀ c ∈ l, c.toNat < 128) → bd l 0 = l.length
  | [], _ => bd_nil [] 0 rfl
  | c :: r, h => by rw [bd_ascii c r (h c (by simp)), bd_all r (fun x hx => h x (by simp [hx]))]; rfl

/-- The example's text: f x.a -/
def exL : List UInt8 := [102, 32, 120, 46, 97]
def exT : List Tk := [(1, [102], 0), (1, [120], 2), (8, [46], 3), (1, [97], 4), (0, [], 5)]
theorem exLex : lexA exL = .ok exT := by
  have h : lexR exL 0 = .ok exT := by
    unfold exL
    rw [lexR_at 102 _ 0 (1, [102]) 1 (by decide) (by decide) (by decide)]
    dsimp only [List.drop]
    rw [lexR_blank 32 _ _ (by decide), lexR_at 120 _ _ (1, [120]) 1 (by decide) (by decide) (by decide)]
    dsimp only [List.drop]
    rw [lexR_at 46 _ _ (8, [46]) 1 (by decide) (by decide) (by decide)]
    dsimp only [List.drop]
    rw [lexR_at 97 _ _ (1, [97]) 1 (by decide) (by decide) (by decide)]
    dsimp only [List.drop]
    rw [lexR_end [] _ (by rw [skipN_nil]; rfl), skipN_nil]
    rfl
  unfold lexA
  rw [if_neg (by decide), bd_all exL (by decide), if_neg (by decide), h]
def exTree : List TermD := [⟨0, 0, bs [102], 0, 0, [], [], []⟩, ⟨0, 2, bs [120], 0, 0, [], [], []⟩, ⟨13, 3, bs [97], 0, 0, [], [1], []⟩, ⟨6, 2, bs [], 0, 0, [], [0, 2], []⟩]
theorem exParse : termM exT ⟨0, 0, [], []⟩ = .ok 3 ⟨4, 0, exTree, []⟩ := by rfl
theorem exCheck : checkF ⟨exTree, [], []⟩ = true := by kernel_rfl
theorem exOk : TsOk exT := ⟨by decide, by decide, fun k => by
  by_cases hk : k < 5
  · match k, hk with
    | 0, _ => decide
    | 1, _ => decide
    | 2, _ => decide
    | 3, _ => decide
    | 4, _ => decide
  · have : tkA exT k = (0, [], 0) := by
      unfold tkA
      rw [List.getD_eq_getElem?_getD, List.getElem?_eq_none (by simp [exT]; omega)]
      rfl
    rw [this]; decide⟩
end Go.Proofs.YtidmeodmkcomlaaGreatDoor

namespace Go.Proofs.YtidmeodmkcomlaaGreatDoor
open Go Go.Proofs Go.RowKit

/-- As many times ' + 1'. -/
def plusL : Nat → List UInt8
  | 0 => []
  | n + 1 => 32 :: 43 :: 32 :: 49 :: plusL n
def plusT : Nat → Nat → List Tk
  | 0, k => [(0, [], k)]
  | n + 1, k => (8, [43], k + 1) :: (4, [49], k + 3) :: plusT n (k + 4)
/-- As many times ' -> int'. -/
def arrL : Nat → List UInt8
  | 0 => []
  | n + 1 => 32 :: 45 :: 62 :: 32 :: 105 :: 110 :: 116 :: arrL n
def arrT : Nat → Nat → List Tk
  | 0, k => [(0, [], k)]
  | n + 1, k => (8, [45, 62], k + 1) :: (7, [105, 110, 116], k + 4) :: arrT n (k + 7)

theorem tok_one (n : Nat) : tok (49 :: plusL n) = some ((4, [49]), 1) := by cases n <;> rfl
theorem tok_int (n : Nat) : tok (105 :: 110 :: 116 :: arrL n) = some ((7, [105, 110, 116]), 3) := by cases n <;> rfl
theorem lexR_plus : ∀ n k, lexR (plusL n) k = .ok (plusT n k)
  | 0, k => by
    rw [show plusL 0 = [] from rfl, lexR_end [] _ (by rw [skipN_nil]; rfl), skipN_nil]
    rfl
  | n + 1, k => by
    rw [show plusL (n + 1) = 32 :: 43 :: 32 :: 49 :: plusL n from rfl, lexR_blank 32 _ _ (by decide), lexR_at 43 _ _ (8, [43]) 1 (by decide) rfl rfl]
    dsimp only [List.drop]
    rw [lexR_blank 32 _ _ (by decide), lexR_at 49 _ _ (4, [49]) 1 (by decide) (by cases n <;> rfl) (tok_one n)]
    dsimp only [List.drop]
    rw [lexR_plus n, show k + 1 + 1 + 1 + 1 = k + 4 by omega]
    rfl
theorem lexR_arr : ∀ n k, lexR (arrL n) k = .ok (arrT n k)
  | 0, k => by
    rw [show arrL 0 = [] from rfl, lexR_end [] _ (by rw [skipN_nil]; rfl), skipN_nil]
    rfl
  | n + 1, k => by
    rw [show arrL (n + 1) = 32 :: 45 :: 62 :: 32 :: 105 :: 110 :: 116 :: arrL n from rfl, lexR_blank 32 _ _ (by decide), lexR_at 45 _ _ (8, [45, 62]) 2 (by decide) rfl rfl]
    dsimp only [List.drop]
    rw [lexR_blank 32 _ _ (by decide), lexR_at 105 _ _ (7, [105, 110, 116]) 3 (by decide) rfl (tok_int n)]
    dsimp only [List.drop]
    rw [lexR_arr n, show k + 1 + 2 + 1 + 3 = k + 7 by omega]
    rfl

def rowL' (n : Nat) : List UInt8 := 49 :: plusL n
def rowT (n : Nat) : List Tk := (4, [49], 0) :: plusT n 1
def tyL (n : Nat) : List UInt8 := 105 :: 110 :: 116 :: arrL n
def tyT (n : Nat) : List Tk := (7, [105, 110, 116], 0) :: arrT n 3
theorem plusL_ascii : ∀ n, ∀ c ∈ plusL n, c.toNat < 128
  | 0, c, h => by cases h
  | n + 1, c, h => by
    rw [show plusL (n + 1) = 32 :: 43 :: 32 :: 49 :: plusL n from rfl] at h
    simp only [List.mem_cons] at h
    rcases h with rfl | rfl | rfl | rfl | h
    · decide
    · decide
    · decide
    · decide
    · exact plusL_ascii n c h
theorem arrL_ascii : ∀ n, ∀ c ∈ arrL n, c.toNat < 128
  | 0, c, h => by cases h
  | n + 1, c, h => by
    rw [show arrL (n + 1) = 32 :: 45 :: 62 :: 32 :: 105 :: 110 :: 116 :: arrL n from rfl] at h
    simp only [List.mem_cons] at h
    rcases h with rfl | rfl | rfl | rfl | rfl | rfl | rfl | h
    · decide
    · decide
    · decide
    · decide
    · decide
    · decide
    · decide
    · exact arrL_ascii n c h
theorem plusL_length : ∀ n, (plusL n).length = 4 * n
  | 0 => rfl
  | n + 1 => by
    have := plusL_length n
    simp only [plusL, List.length_cons]
    omega
theorem arrL_length : ∀ n, (arrL n).length = 7 * n
  | 0 => rfl
  | n + 1 => by
    have := arrL_length n
    simp only [arrL, List.length_cons]
    omega
theorem lex_row (n : Nat) (hn : n ≤ 1000) : lexA (rowL' n) = .ok (rowT n) := by
  have hl := plusL_length n
  unfold lexA rowL'
  rw [if_neg (by simp only [List.length_cons]; omega), bd_all _ (by
    intro c hc
    rcases List.mem_cons.1 hc with rfl | hc
    · decide
    · exact plusL_ascii n c hc), if_neg (by omega), lexR_at 49 _ _ (4, [49]) 1 (by decide) (by cases n <;> rfl) (tok_one n)]
  dsimp only [List.drop]
  rw [lexR_plus n]
  rfl
theorem lex_ty (n : Nat) (hn : n ≤ 1000) : lexA (tyL n) = .ok (tyT n) := by
  have hl := arrL_length n
  unfold lexA tyL
  rw [if_neg (by simp only [List.length_cons]; omega), bd_all _ (by
    intro c hc
    simp only [List.mem_cons] at hc
    rcases hc with rfl | rfl | rfl | hc
    · decide
    · decide
    · decide
    · exact arrL_ascii n c hc), if_neg (by omega), lexR_at 105 _ _ (7, [105, 110, 116]) 3 (by decide) rfl (tok_int n)]
  dsimp only [List.drop]
  rw [lexR_arr n]
  rfl

theorem plusT_length : ∀ n k, (plusT n k).length = 2 * n + 1
  | 0, _ => rfl
  | n + 1, k => by
    have := plusT_length n (k + 4)
    simp only [plusT, List.length_cons]
    omega
theorem arrT_length : ∀ n k, (arrT n k).length = 2 * n + 1
  | 0, _ => rfl
  | n + 1, k => by
    have := arrT_length n (k + 7)
    simp only [arrT, List.length_cons]
    omega
theorem tkA_cons (t : Tk) (r : List Tk) (k : Nat) : tkA (t :: r) (k + 1) = tkA r k := by simp [tkA]
theorem tkA_zero (t : Tk) (r : List Tk) : tkA (t :: r) 0 = t := rfl
theorem plusT_at : ∀ n k j, j < n → tkA (plusT n k) (2 * j) = (8, [43], k + 4 * j + 1) ∧ tkA (plusT n k) (2 * j + 1) = (4, [49], k + 4 * j + 3)
  | 0, _, _, h => absurd h (by omega)
  | n + 1, k, 0, _ => ⟨rfl, rfl⟩
  | n + 1, k, j + 1, h => by
    have := plusT_at n (k + 4) j (by omega)
    rw [show plusT (n + 1) k = (8, [43], k + 1) :: (4, [49], k + 3) :: plusT n (k + 4) from rfl, show 2 * (j + 1) = 2 * j + 1 + 1 by omega, tkA_cons, tkA_cons, show 2 * j + 1 + 1 + 1 = (2 * j + 1) + 1 + 1 by omega, tkA_cons, tkA_cons, this.1, this.2, show k + 4 + 4 * j = k + 4 * (j + 1) by omega]
    exact ⟨rfl, rfl⟩
theorem plusT_end : ∀ n k, tkA (plusT n k) (2 * n) = (0, [], k + 4 * n)
  | 0, _ => rfl
  | n + 1, k => by
    have := plusT_end n (k + 4)
    rw [show plusT (n + 1) k = (8, [43], k + 1) :: (4, [49], k + 3) :: plusT n (k + 4) from rfl, show 2 * (n + 1) = 2 * n + 1 + 1 by omega, tkA_cons, tkA_cons, this, show k + 4 + 4 * n = k + 4 * (n + 1) by omega]
theorem arrT_at : ∀ n k j, j < n → tkA (arrT n k) (2 * j) = (8, [45, 62], k + 7 * j + 1) ∧ tkA (arrT n k) (2 * j + 1) = (7, [105, 110, 116], k + 7 * j + 4)
  | 0, _, _, h => absurd h (by omega)
  | n + 1, k, 0, _ => ⟨rfl, rfl⟩
  | n + 1, k, j + 1, h => by
    have := arrT_at n (k + 7) j (by omega)
    rw [show arrT (n + 1) k = (8, [45, 62], k + 1) :: (7, [105, 110, 116], k + 4) :: arrT n (k + 7) from rfl, show 2 * (j + 1) = 2 * j + 1 + 1 by omega, tkA_cons, tkA_cons, show 2 * j + 1 + 1 + 1 = (2 * j + 1) + 1 + 1 by omega, tkA_cons, tkA_cons, this.1, this.2, show k + 7 + 7 * j = k + 7 * (j + 1) by omega]
    exact ⟨rfl, rfl⟩
theorem arrT_end : ∀ n k, tkA (arrT n k) (2 * n) = (0, [], k + 7 * n)
  | 0, _ => rfl
  | n + 1, k => by
    have := arrT_end n (k + 7)
    rw [show arrT (n + 1) k = (8, [45, 62], k + 1) :: (7, [105, 110, 116], k + 4) :: arrT n (k + 7) from rfl, show 2 * (n + 1) = 2 * n + 1 + 1 by omega, tkA_cons, tkA_cons, this, show k + 7 + 7 * n = k + 7 * (n + 1) by omega]
end Go.Proofs.YtidmeodmkcomlaaGreatDoor

namespace Go.Proofs.YtidmeodmkcomlaaGreatDoor
open Go Go.Proofs Go.RowKit

def nInt (p : Nat) : TermD := ⟨1, (p : Nat), bs [], 1, 0, [], [], []⟩
def nOp (p a b : Nat) : TermD := ⟨14, (p : Nat), bs [43], 0, 0, [], [(a : Int), (b : Int)], []⟩
/-- The terms of a row of n sums. -/
def NL : Nat → List TermD
  | 0 => [nInt 0]
  | n + 1 => NL n ++ [nInt (4 * n + 4), nOp (4 * n + 2) (2 * n) (2 * n + 1)]
theorem NL_length : ∀ n, (NL n).length = 2 * n + 1
  | 0 => rfl
  | n + 1 => by
    have := NL_length n
    simp only [NL, List.length_append, List.length_cons, List.length_nil]
    omega

theorem stands_end (l : List UInt8) (p : Nat) (xs : List (List UInt8)) : ¬ standsB (0, l, p) xs = true := by
  rw [show standsB (0, l, p) xs = false from rfl]
  decide
section
variable {ts : List Tk}
theorem prod_int {s : St} {p : Nat} (ht : tkA ts s.k = (4, [49], p)) (hn : (tkA ts (s.k + 1)).1 = 0 ∨ ∃ q, tkA ts (s.k + 1) = (8, [43], q)) (hl : s.t1.length < 65536) (hL : 1 ≤ ts.length) :
    productM ts s = .ok s.t1.length ⟨s.k + 1, s.op, s.t1 ++ [nInt p], s.t2⟩ := by
  obtain ⟨f, hf⟩ : ∃ f, ts.length = f + 1 := ⟨ts.length - 1, by omega⟩
  have hst : ∀ xs : List (List UInt8), xs.any (fun x => x == [43]) = false → standsB (tkA ts (s.k + 1)) xs = false := fun xs hx => by
    rcases hn with h | ⟨q, h⟩
    · unfold standsB; rw [h]; rfl
    · unfold standsB; rw [h]; simp only [hx, Bool.and_false]
  have hun : unitB (tkA ts (s.k + 1)) = false := by
    unfold unitB
    rw [hst _ (by decide)]
    rcases hn with h | ⟨q, h⟩
    · rw [h]; rfl
    · rw [h]; rfl
  have h1 : atomM ts s = .ok s.t1.length ⟨s.k + 1, s.op, s.t1 ++ [nInt p], s.t2⟩ := by
    unfold atomM
    rw [ht]
    show newT (s.on 1) (nInt p) = _
    unfold newT
    rw [if_pos (by exact hl)]
    rfl
  have h2 : postM ts s = .ok s.t1.length ⟨s.k + 1, s.op, s.t1 ++ [nInt p], s.t2⟩ := by
    unfold postM
    rw [h1, hf]
    show postL ts (f + 1) _ _ = _
    unfold postL
    rw [if_neg (by rw [hst _ (by decide)]; decide)]
  have h3 : unitM ts s = .ok s.t1.length ⟨s.k + 1, s.op, s.t1 ++ [nInt p], s.t2⟩ := by
    unfold unitM
    rw [ht, if_neg (show ¬ (4 : Nat) = 3 by decide), h2]
  have h4 : applyM ts s = .ok s.t1.length ⟨s.k + 1, s.op, s.t1 ++ [nInt p], s.t2⟩ := by
    unfold applyM
    rw [h3, hf]
    show applyL ts (f + 1) _ _ = _
    unfold applyL
    rw [if_neg (by rw [hun]; decide)]
  unfold productM rowM
  rw [h4, hf]
  show rowL ts _ _ (f + 1) _ _ = _
  unfold rowL
  rw [if_neg (by rw [hst _ (by decide)]; decide)]

abbrev plusS : List (List UInt8) := [[43], [45], [43, 46], [45, 46]]
theorem sum_loop (n : Nat) (hn : n ≤ 1000) (op : Nat) (t2 : List TypD) : ∀ (r j f : Nat), j + r = n → r < f →
    rowL (rowT n) (productM (rowT n)) plusS f (2 * j) ⟨2 * j + 1, op, NL j, t2⟩ = .ok (2 * n) ⟨2 * n + 1, op, NL n, t2⟩
  | 0, j, f + 1, hj, _ => by
    obtain rfl : j = n := by omega
    unfold rowL
    have he : tkA (rowT j) (2 * j + 1) = (0, [], 1 + 4 * j) := by
      unfold rowT
      rw [tkA_cons, plusT_end]
    dsimp only
    rw [he, if_neg (stands_end _ _ _)]
  | r + 1, j, f + 1, hj, hf => by
    have ha := plusT_at n 1 j (by omega)
    have h1 : tkA (rowT n) (2 * j + 1) = (8, [43], 4 * j + 2) := by
      unfold rowT
      rw [tkA_cons, ha.1, show 1 + 4 * j + 1 = 4 * j + 2 by omega]
    have h2 : tkA (rowT n) (2 * j + 2) = (4, [49], 4 * j + 4) := by
      unfold rowT
      rw [tkA_cons, ha.2, show 1 + 4 * j + 3 = 4 * j + 4 by omega]
    have h3 : (tkA (rowT n) (2 * j + 3)).1 = 0 ∨ ∃ q, tkA (rowT n) (2 * j + 3) = (8, [43], q) := by
      unfold rowT
      rw [tkA_cons]
      by_cases hl : j + 1 < n
      · exact .inr ⟨_, (plusT_at n 1 (j + 1) hl).1⟩
      · obtain rfl : n = j + 1 := by omega
        rw [show 2 * j + 2 = 2 * (j + 1) by omega, plusT_end]
        exact .inl rfl
    have hlen := NL_length j
    have hp : productM (rowT n) ((⟨2 * j + 1, op, NL j, t2⟩ : St).on 1) = .ok (2 * j + 1) ⟨2 * j + 3, op, NL j ++ [nInt (4 * j + 4)], t2⟩ := by
      have := prod_int (ts := rowT n) (s := ⟨2 * j + 2, op, NL j, t2⟩) h2 h3 (by dsimp only; omega) (by simp [rowT])
      dsimp only at this
      rw [hlen] at this
      exact this
    unfold rowL
    dsimp only
    rw [h1, if_pos (show standsB (8, [43], 4 * j + 2) plusS = true from rfl)]
    have ho : opM (rowT n) (productM (rowT n)) (2 * j) ⟨2 * j + 1, op, NL j, t2⟩ = .ok (2 * (j + 1)) ⟨2 * (j + 1) + 1, op, NL (j + 1), t2⟩ := by
      unfold opM
      dsimp only
      rw [hp, h1]
      show newT _ _ = _
      unfold newT
      rw [if_pos (by dsimp only; simp only [List.length_append, List.length_cons, List.length_nil]; omega)]
      simp only [List.length_append, List.length_cons, List.length_nil, List.append_assoc, List.cons_append, List.nil_append, NL, hlen]
      rfl
    rw [ho]
    exact sum_loop n hn op t2 r (j + 1) f (by omega) (by omega)

theorem row_term (n : Nat) (hn : n ≤ 1000) : termM (rowT n) ⟨0, 0, [], []⟩ = .ok (2 * n) ⟨2 * n + 1, 0, NL n, []⟩ := by
  have hL : (rowT n).length = 2 * n + 2 := by simp [rowT, plusT_length]
  have h0 : tkA (rowT n) 0 = (4, [49], 0) := rfl
  have hp : productM (rowT n) ⟨0, 1, [], []⟩ = .ok 0 ⟨1, 1, NL 0, []⟩ := prod_int (ts := rowT n) (s := ⟨0, 1, [], []⟩) h0 (by
    show (tkA (rowT n) 1).1 = 0 ∨ _
    unfold rowT
    rw [tkA_cons]
    cases n with
    | zero => exact .inl rfl
    | succ n => exact .inr ⟨_, rfl⟩) (by decide) (by omega)
  have he : tkA (rowT n) (2 * n + 1) = (0, [], 1 + 4 * n) := by
    unfold rowT
    rw [tkA_cons, plusT_end]
  have hs : sumM (rowT n) ⟨0, 1, [], []⟩ = .ok (2 * n) ⟨2 * n + 1, 1, NL n, []⟩ := by
    unfold sumM rowM
    rw [hp, hL]
    exact sum_loop n hn 1 [] n 0 (2 * n + 2) (by omega) (by omega)
  have hj : joinM (rowT n) ⟨0, 1, [], []⟩ = .ok (2 * n) ⟨2 * n + 1, 1, NL n, []⟩ := by
    unfold joinM rowM
    rw [hs, hL]
    show rowL _ _ _ (2 * n + 1 + 1) _ _ = _
    unfold rowL
    dsimp only
    rw [he, if_neg (stands_end _ _ _)]
  have hc : compareM (rowT n) ⟨0, 1, [], []⟩ = .ok (2 * n) ⟨2 * n + 1, 1, NL n, []⟩ := by
    unfold compareM
    rw [hj]
    show (if _ then _ else _) = _
    dsimp only
    rw [he, if_neg (stands_end _ _ _)]
  unfold termM
  dsimp only
  rw [if_neg (by decide), h0, if_neg (by decide)]
  show (compareM (rowT n) ⟨0, 1, [], []⟩).bind _ = _
  rw [hc]
  rfl
end

def tInt (p : Nat) : TypD := ⟨0, (p : Nat), bs [], [], [], false⟩
def tFun (p a b : Nat) : TypD := ⟨7, (p : Nat), bs [], [], [(a : Int), (b : Int)], false⟩
/-- The types of a row of r arrows, whose first is the j-th of the text, and is numbered b. -/
def YL : Nat → Nat → Nat → List TypD
  | 0, _, j => [tInt (7 * j)]
  | r + 1, b, j => tInt (7 * j) :: (YL r (b + 1) (j + 1) ++ [tFun (7 * j + 4) b (b + 2 * r + 1)])
theorem YL_length : ∀ r b j, (YL r b j).length = 2 * r + 1
  | 0, _, _ => rfl
  | r + 1, b, j => by
    have := YL_length r (b + 1) (j + 1)
    simp only [YL, List.length_cons, List.length_append, List.length_nil]
    omega

theorem tyT_int (n j : Nat) (h : j ≤ n) : tkA (tyT n) (2 * j) = (7, [105, 110, 116], 7 * j) := by
  unfold tyT
  cases j with
  | zero => rfl
  | succ j =>
    rw [show 2 * (j + 1) = 2 * j + 1 + 1 by omega, tkA_cons, (arrT_at n 3 j (by omega)).2, show 3 + 7 * j + 4 = 7 * (j + 1) by omega]
theorem tyT_arr (n j : Nat) (h : j < n) : tkA (tyT n) (2 * j + 1) = (8, [45, 62], 7 * j + 4) := by
  unfold tyT
  rw [tkA_cons, (arrT_at n 3 j h).1, show 3 + 7 * j + 1 = 7 * j + 4 by omega]
theorem tyT_end (n : Nat) : tkA (tyT n) (2 * n + 1) = (0, [], 3 + 7 * n) := by
  unfold tyT
  rw [tkA_cons, arrT_end]

theorem ty_simple (n j : Nat) (h : j ≤ n) (op : Nat) (t1 : List TermD) (t2 : List TypD) (hl : t2.length < 65536) : simpleM (tyT n) ⟨2 * j, op, t1, t2⟩ = .ok t2.length ⟨2 * j + 1, op, t1, t2 ++ [tInt (7 * j)]⟩ := by
  unfold simpleM
  dsimp only
  rw [tyT_int n j h, if_pos ⟨rfl, rfl⟩]
  show newY _ _ = _
  unfold newY
  rw [if_pos (by exact hl)]
  rfl
theorem ty_at (n : Nat) : ∀ (r j f op : Nat) (t1 : List TermD) (t2 : List TypD), j + r = n → r < f → op + r < 256 → t2.length + 2 * r + 1 ≤ 65536 →
    typeM (tyT n) f ⟨2 * j, op, t1, t2⟩ = .ok (t2.length + 2 * r) ⟨2 * n + 1, op, t1, t2 ++ YL r t2.length j⟩
  | 0, j, f + 1, op, t1, t2, hj, _, ho, hl => by
    obtain rfl : j = n := by omega
    unfold typeM
    dsimp only
    rw [if_neg (by omega)]
    show (simpleM (tyT j) ⟨2 * j, op + 1, t1, t2⟩).bind _ = _
    rw [ty_simple j j (Nat.le_refl _) (op + 1) t1 t2 (by omega)]
    show (if _ then _ else _) = _
    dsimp only
    rw [tyT_end, if_neg (stands_end _ _ _)]
    rfl
  | r + 1, j, f + 1, op, t1, t2, hj, hf, ho, hl => by
    have e1 : (t2 ++ [tInt (7 * j)]).length = t2.length + 1 := by simp
    have ih := ty_at n r (j + 1) f (op + 1) t1 (t2 ++ [tInt (7 * j)]) (by omega) (by omega) (by omega) (by rw [e1]; omega)
    rw [e1] at ih
    unfold typeM
    dsimp only
    rw [if_neg (by omega)]
    show (simpleM (tyT n) ⟨2 * j, op + 1, t1, t2⟩).bind _ = _
    rw [ty_simple n j (by omega) (op + 1) t1 t2 (by omega)]
    show (if _ then _ else _) = _
    dsimp only
    rw [tyT_arr n j (by omega), if_pos (show standsB (8, [45, 62], 7 * j + 4) [[45, 62]] = true from rfl)]
    show (typeM (tyT n) f ⟨2 * (j + 1), op + 1, t1, t2 ++ [tInt (7 * j)]⟩).bind _ = _
    rw [ih]
    show (newY _ _).bind _ = _
    have hyl := YL_length r (t2.length + 1) (j + 1)
    have e2 : (t2 ++ [tInt (7 * j)] ++ YL r (t2.length + 1) (j + 1)).length = t2.length + 2 * (r + 1) := by
      rw [List.length_append, e1, hyl]
      omega
    unfold newY
    dsimp only
    rw [e2, if_pos (by omega)]
    show PR.ok _ _ = PR.ok _ _
    rw [show t2.length + 1 + 2 * r = t2.length + 2 * r + 1 by omega]
    simp only [St.down, YL, List.append_assoc, List.cons_append, List.nil_append, Nat.add_sub_cancel]
    rfl
theorem ty_type (n : Nat) (hn : n ≤ 200) : typeM (tyT n) 256 ⟨0, 0, [], []⟩ = .ok (2 * n) ⟨2 * n + 1, 0, [], YL n 0 0⟩ := by
  have := ty_at n n 0 256 0 [] [] (by omega) (by omega) (by omega) (by simp; omega)
  simpa using this
end Go.Proofs.YtidmeodmkcomlaaGreatDoor

namespace Go.Proofs.YtidmeodmkcomlaaGreatDoor
open Go Go.Proofs Go.RowKit

theorem ex_new (n₀ : Nat) (w : World) (cs : Array Value) (fz : Nat × Nat) (l : List UInt8) (hc : cs = (cells8 l).toArray) (h : w.heap.size < n₀) : TextAt n₀ (w.alloc (.cells cs 5 fz)) (.slice (some ⟨w.heap.size, 0, none⟩) l.length l.length) l := by
  subst hc
  refine .inr ⟨w.heap.size, 0, l.length, rfl, h, Nat.le_refl _, ?_⟩
  intro j hj
  have hn := World.alloc_heap_new w (.cells (cells8 l).toArray 5 fz)
  simp only [World.cell?, hn]
  simp [cells8, List.getD_eq_getElem?_getD, List.getElem?_eq_getElem hj]

theorem exFew : TreeFew ⟨exTree, [], []⟩ := by
  refine ⟨fun x hx => ?_, fun x hx => by simp at hx, fun x hx => by simp at hx, by simp, by simp [exTree], by simp⟩
  simp only [exTree, List.mem_cons, List.not_mem_nil, or_false] at hx
  rcases hx with rfl | rfl | rfl | rfl
  all_goals simp [TermFew, bs]
  all_goals simp [ByteArray.size]

set_option maxRecDepth 100000 in
set_option maxHeartbeats 8000000 in
theorem lives_any (w : World) (hE : Env w) : Calls Tryz.prog 8 #[] w fun e W' => e = .returned (.bool true) ∧ Below w.heap.size w W' := by
  obtain ⟨w0, hw0⟩ : ∃ w0, w.alloc (.cells #[.int .u8 102, .int .u8 32, .int .u8 120, .int .u8 46, .int .u8 97] 5 (5, 6)) = w0 := ⟨_, rfl⟩
  have hb0 : Below w.heap.size w w0 := by rw [← hw0]; exact (Below.refl _ w).alloc (Nat.le_refl _) _
  have hs0 : w0.heap.size = w.heap.size + 1 := by rw [← hw0]; simp
  have hT : TextAt w0.heap.size w0 (.slice (some ⟨w.heap.size, 0, none⟩) 5 5) exL := by
    rw [← hw0]
    exact ex_new _ w _ (5, 6) exL rfl (by simp)
  have cL := ptext_any exLex exOk (by decide) (termM exT) (textR_any exOk) exParse (by decide) (by decide) (some ⟨w.heap.size, 0, none⟩) 5 5 w0 rfl (hE.on hb0) hT
  have kc := fun (w : World) (C : Array Value) (n c : Nat) => Lib.run_convert_bytes_const (P := Tryz.prog) w 33 5 C n c Tryz.underlying33 Tryz.underlying5
  clear hT
  go_enter Tryz.func8, Tryz.ntmps8
  go_wp2_with fail
  refine cL.mono ?_
  rintro e w1 ⟨p, rfl, hTA, hb1⟩
  go_wp2_with fail
  obtain ⟨W2, hW2⟩ : ∃ W2, w1.alloc (.cells #[.slice p.a1 exTree.length p.c1, .slice p.a2 0 p.c2, .slice p.a3 0 p.c3] 27) = W2 := ⟨_, rfl⟩
  obtain ⟨W3, hW3⟩ : ∃ W3, W2.alloc (.cells #[.int .i64 0, .int .i64 0, .string ⟨#[]⟩] 30) = W3 := ⟨_, rfl⟩
  rw [hW2, hW3]
  have hb2 : Below w1.heap.size w1 W2 := by rw [← hW2]; exact (Below.refl _ _).alloc (Nat.le_refl _) _
  have hb3 : Below W2.heap.size W2 W3 := by rw [← hW3]; exact (Below.refl _ _).alloc (Nat.le_refl _) _
  have hX2 : Blk W2 w1.heap.size 27 #[.slice p.a1 exTree.length p.c1, .slice p.a2 0 p.c2, .slice p.a3 0 p.c3] := by rw [← hW2]; exact Blk.new w1 27 _
  have hX3 := hX2.below hb3 hX2.lt
  have hb13 : Below w1.heap.size w1 W3 := hb2.trans (hb3.mono hb2.size)
  have hTA3 : TreeAt (Lt W3.heap.size) W3 ⟨exTree, [], []⟩ p := (hTA.keep (fun b o hb => hb13.cell (p := ⟨b, o, none⟩) hb.2)).imp (fun b hb => Nat.lt_of_lt_of_le hb.2 hb13.size)
  have cR := right_any ⟨exTree, [], []⟩ p W3 hTA3 exFew (fun x hx => by
    simp only [exTree, List.mem_cons, List.not_mem_nil, or_false] at hx
    rcases hx with rfl | rfl | rfl | rfl
    all_goals decide)
  rw [exCheck] at cR
  obtain ⟨b, off, hpa, hbb, hcell⟩ := hTA3.1 (by decide)
  obtain ⟨q, _, hq⟩ := hcell 3 _ rfl
  have f0 := hq 0 _ rfl
  have f1 := hq 1 _ rfl
  have hbw : Below w.heap.size w W3 := hb0.trans ((hb1.trans (hb13.mono hb1.size)).mono hb0.size)
  have HBW := Lib.hid hbw
  have hexl : exTree.length = 4 := rfl
  clear hTA hTA3 hcell hq hb0 hb1 hb2 hb3 hb13 hbw cL kc hX2
  refine cR.mono ?_
  rintro e w4 ⟨rfl, hb4⟩
  have hX4 := hX3.below hb4 hX3.lt
  have x0 := hX4.cell 0
  simp only [List.getElem?_toArray, List.getElem?_cons_zero] at x0
  have g0 := (hb4.cell (p := ⟨b, off + 3 * 8 + 0, none⟩) hbb).trans f0
  have g1 := (hb4.cell (p := ⟨b, off + 3 * 8 + 1, none⟩) hbb).trans f1
  rw [hpa, hexl] at x0
  have HB4 := Lib.hid hb4
  clear hb4 cR f0 f1 hX3 hX4 hW2 hW3
  go_wp2_with fail
  go_ret
  exact ⟨rfl, HBW.out.trans (HB4.out.mono HBW.out.size)⟩
end Go.Proofs.YtidmeodmkcomlaaGreatDoor

namespace Go.Proofs.YtidmeodmkcomlaaGreatDoor
open Go Go.Proofs Go.RowKit

theorem bs_append (a b : List UInt8) : bs a ++ bs b = bs (a ++ b) := by
  unfold bs
  apply ByteArray.ext
  simp [ByteArray.data_append]
theorem plusL_snoc : ∀ n, plusL n ++ [32, 43, 32, 49] = plusL (n + 1)
  | 0 => rfl
  | n + 1 => by
    rw [show plusL (n + 1) = 32 :: 43 :: 32 :: 49 :: plusL n from rfl, List.cons_append, List.cons_append, List.cons_append, List.cons_append, plusL_snoc n]
    rfl
theorem arrL_snoc : ∀ n, arrL n ++ [32, 45, 62, 32, 105, 110, 116] = arrL (n + 1)
  | 0 => rfl
  | n + 1 => by
    rw [show arrL (n + 1) = 32 :: 45 :: 62 :: 32 :: 105 :: 110 :: 116 :: arrL n from rfl]
    simp only [List.cons_append]
    rw [arrL_snoc n]
    rfl
theorem row_snoc (n : Nat) : bs (rowL' n) ++ ⟨#[32, 43, 32, 49]⟩ = bs (rowL' (n + 1)) := by
  rw [show (⟨#[32, 43, 32, 49]⟩ : ByteArray) = bs [32, 43, 32, 49] from rfl, bs_append]
  unfold rowL'
  rw [List.cons_append, plusL_snoc]
theorem ty_snoc (n : Nat) : bs (tyL n) ++ ⟨#[32, 45, 62, 32, 105, 110, 116]⟩ = bs (tyL (n + 1)) := by
  rw [show (⟨#[32, 45, 62, 32, 105, 110, 116]⟩ : ByteArray) = bs [32, 45, 62, 32, 105, 110, 116] from rfl, bs_append]
  unfold tyL
  rw [List.cons_append, List.cons_append, List.cons_append, arrL_snoc]
theorem row_size (n : Nat) : (bs (rowL' n)).size = 4 * n + 1 := by
  rw [bs_size, rowL', List.length_cons, plusL_length]
theorem ty_size (n : Nat) : (bs (tyL n)).size = 7 * n + 3 := by
  rw [bs_size, tyL, List.length_cons, List.length_cons, List.length_cons, arrL_length]

theorem NL_zero : ∀ n, (NL n)[0]? = some (nInt 0)
  | 0 => rfl
  | n + 1 => by
    have := NL_length n
    rw [show NL (n + 1) = NL n ++ [nInt (4 * n + 4), nOp (4 * n + 2) (2 * n) (2 * n + 1)] from rfl, List.getElem?_append_left (by omega)]
    exact NL_zero n
theorem NL_at : ∀ n a, a < n → (NL n)[2 * a + 2]? = some (nOp (4 * a + 2) (2 * a) (2 * a + 1)) ∧ (NL n)[2 * a + 1]? = some (nInt (4 * a + 4))
  | 0, _, h => absurd h (by omega)
  | n + 1, a, h => by
    have hl := NL_length n
    rw [show NL (n + 1) = NL n ++ [nInt (4 * n + 4), nOp (4 * n + 2) (2 * n) (2 * n + 1)] from rfl]
    by_cases ha : a < n
    · rw [List.getElem?_append_left (by omega), List.getElem?_append_left (by omega)]
      exact NL_at n a ha
    · obtain rfl : a = n := by omega
      rw [List.getElem?_append_right (by omega), List.getElem?_append_right (by omega), hl, show 2 * a + 2 - (2 * a + 1) = 1 by omega, show 2 * a + 1 - (2 * a + 1) = 0 by omega]
      exact ⟨rfl, rfl⟩
theorem YL_int : ∀ r b k m, m ≤ r → (YL r b k)[m]? = some (tInt (7 * (k + m)))
  | 0, b, k, m, h => by
    obtain rfl : m = 0 := by omega
    rfl
  | r + 1, b, k, 0, _ => rfl
  | r + 1, b, k, m + 1, h => by
    have hl := YL_length r (b + 1) (k + 1)
    show (YL r (b + 1) (k + 1) ++ [tFun (7 * k + 4) b (b + 2 * r + 1)])[m]? = _
    rw [List.getElem?_append_left (by omega), YL_int r (b + 1) (k + 1) m (by omega), show k + 1 + m = k + (m + 1) by omega]
theorem YL_fun : ∀ r b k m a, m + a + 1 = r → ∃ p, (YL r b k)[m + 2 * a + 2]? = some (tFun p (b + m) (b + m + 2 * a + 1))
  | r + 1, b, k, 0, a, h => by
    obtain rfl : r = a := by omega
    have hl := YL_length r (b + 1) (k + 1)
    refine ⟨7 * k + 4, ?_⟩
    rw [show 0 + 2 * r + 2 = (2 * r + 1) + 1 by omega]
    show (YL r (b + 1) (k + 1) ++ [tFun (7 * k + 4) b (b + 2 * r + 1)])[2 * r + 1]? = _
    rw [List.getElem?_append_right (by omega), hl, Nat.sub_self]
    simp
  | r + 1, b, k, m + 1, a, h => by
    have hl := YL_length r (b + 1) (k + 1)
    obtain ⟨p, hp⟩ := YL_fun r (b + 1) (k + 1) m a (by omega)
    refine ⟨p, ?_⟩
    rw [show m + 1 + 2 * a + 2 = (m + 2 * a + 2) + 1 by omega]
    show (YL r (b + 1) (k + 1) ++ [tFun (7 * k + 4) b (b + 2 * r + 1)])[m + 2 * a + 2]? = _
    rw [List.getElem?_append_left (by omega), hp, show b + 1 + m = b + (m + 1) by omega]

theorem tl_bs (l : List UInt8) : tl (bs l) = l := by
  unfold tl bs
  simp
theorem plusT_short : ∀ n k, ∀ t ∈ plusT n k, t.2.1.length ≤ 3
  | 0, k, t, h => by
    simp only [plusT, List.mem_singleton] at h
    subst h
    exact Nat.zero_le _
  | n + 1, k, t, h => by
    simp only [plusT, List.mem_cons] at h
    rcases h with rfl | rfl | h
    · show 1 ≤ 3; decide
    · show 1 ≤ 3; decide
    · exact plusT_short n _ t h
theorem arrT_short : ∀ n k, ∀ t ∈ arrT n k, t.2.1.length ≤ 3
  | 0, k, t, h => by
    simp only [arrT, List.mem_singleton] at h
    subst h
    exact Nat.zero_le _
  | n + 1, k, t, h => by
    simp only [arrT, List.mem_cons] at h
    rcases h with rfl | rfl | h
    · show 2 ≤ 3; decide
    · show 3 ≤ 3; decide
    · exact arrT_short n _ t h
theorem tkA_short {ts : List Tk} (h : ∀ t ∈ ts, t.2.1.length ≤ 3) (k : Nat) : (tkA ts k).2.1.length ≤ 1048576 := by
  unfold tkA
  rw [List.getD_eq_getElem?_getD]
  rcases hk : ts[k]? with _ | t
  · simp
  · have := h t (List.mem_of_getElem? hk)
    simp only [Option.getD_some]
    omega
theorem row_len (n : Nat) : (rowT n).length = 2 * n + 2 := by simp [rowT, plusT_length]
theorem ty_len (n : Nat) : (tyT n).length = 2 * n + 2 := by simp [tyT, arrT_length]
theorem row_end (n : Nat) : (tkA (rowT n) (2 * n + 1)).1 = 0 := by
  unfold rowT
  rw [tkA_cons, plusT_end]
theorem rowOk (n : Nat) : TsOk (rowT n) := ⟨by rw [row_len]; omega, by rw [row_len]; exact row_end n, tkA_short (fun t ht => by
  rcases List.mem_cons.1 ht with rfl | ht
  · show 1 ≤ 3; decide
  · exact plusT_short n _ t ht)⟩
theorem tyOk (n : Nat) : TsOk (tyT n) := ⟨by rw [ty_len]; omega, by rw [ty_len, show 2 * n + 2 - 1 = 2 * n + 1 by omega, tyT_end], tkA_short (fun t ht => by
  rcases List.mem_cons.1 ht with rfl | ht
  · show 3 ≤ 3; decide
  · exact arrT_short n _ t ht)⟩

set_option maxRecDepth 100000 in
set_option maxHeartbeats 40000000 in
theorem rows_any (m : Nat) (hm : m ≤ 255) (w : World) (hE : Env w) : Calls Tryz.prog 3 #[.int .u8 (m : Int)] w fun e w' => e = .returned (.bool true) ∧ Below w.heap.size w w' := by
  have cV := lives_any w hE
  obtain ⟨n, hn⟩ : ∃ n, m % 100 = n := ⟨_, rfl⟩
  have hn100 : n < 100 := by omega
  have hrem : ((m : Int)).tmod 100 = (n : Int) := by rw [← hn]; rfl
  have kc := fun (w : World) (s : ByteArray) => Lib.run_convert_string_bytes (P := Tryz.prog) w 9 33 5 s Tryz.underlying9 Tryz.underlying33 Tryz.underlying5
  go_enter Tryz.func3, Tryz.ntmps3
  go_wp2_with fail
  refine cV.mono ?_
  rintro e w1 ⟨rfl, hb1⟩
  have HB1 := Lib.hid hb1
  have HE := Lib.hid hE
  clear cV hb1 hE hn
  go_wp2_with fail
  go_loopw [4, 5, 20] (fun a b c wr => ∃ j : Nat, j ≤ n ∧ a = .string (bs (rowL' j)) ∧ b = .string (bs (tyL j)) ∧ c = .int .i64 (j : Int) ∧ wr = w1) (fun _ _ c _ => n - (intOf c).toNat)
  case atStart => exact ⟨0, Nat.zero_le _, rfl, rfl, rfl, rfl⟩
  case round =>
    obtain ⟨j, hj, rfl, rfl, rfl, rfl⟩ := hrel
    have hs4 := row_size j
    have hs5 := ty_size j
    have hc4 := row_snoc j
    have hc5 := ty_snoc j
    by_cases hlt : j < n
    · go_wp2_with fail
      exact ⟨⟨j + 1, by omega, rfl, rfl, rfl, trivial⟩, by simp [intOf]; omega⟩
    · obtain rfl : j = n := by omega
      go_wp2_with fail
      clear hc4 hc5 hlt hj hm
      have hbs1 : Below wr.heap.size wr (Lib.bytesWorld wr 5 (bs (rowL' j))) := Go.Joins.below_bytesWorld _ _ _ _ (Nat.le_refl _)
      have hz1 : (Lib.bytesWorld wr 5 (bs (rowL' j))).heap.size = wr.heap.size + 1 := Lib.bytesWorld_size _ _ _
      have hE1 : Env (Lib.bytesWorld wr 5 (bs (rowL' j))) := HE.out.on (HB1.out.trans (hbs1.mono HB1.out.size))
      have hT1 := text_bytes wr (bs (rowL' j))
      rw [tl_bs, ← hz1, hs4] at hT1
      have cA := ptext_any (lex_row j (by omega)) (rowOk j) (by rw [row_len]; omega) (termM (rowT j)) (textR_any (rowOk j)) (row_term j (by omega)) (row_end j) (by rw [row_len]; show 2 * j + 1 < 2 * j + 2; omega) (some ⟨wr.heap.size, 0, none⟩) (4 * j + 1) (grownCap wr (4 * j + 1) 0 5) (Lib.bytesWorld wr 5 (bs (rowL' j))) (by rw [← bs_size, hs4]) hE1 hT1
      dsimp only at cA
      refine cA.mono ?_
      rintro e w3 ⟨p, rfl, hTA, hb3⟩
      have hb13 : Below wr.heap.size wr w3 := hbs1.trans (hb3.mono hbs1.size)
      have HTA := Lib.hid hTA
      have HB13 := Lib.hid hb13
      have HB3 := Lib.hid hb3
      clear cA hT1 hE1 hbs1 hz1 hTA hb13 hb3
      go_wp2_with fail
      obtain ⟨W4, hW4⟩ : ∃ W4, w3.alloc (.cells #[.slice p.a1 (NL j).length p.c1, .slice p.a2 0 p.c2, .slice p.a3 0 p.c3] 27) = W4 := ⟨_, rfl⟩
      obtain ⟨W5, hW5⟩ : ∃ W5, W4.alloc (.cells #[.int .i64 0, .int .i64 0, .string ⟨#[]⟩] 30) = W5 := ⟨_, rfl⟩
      rw [hW4, hW5]
      have hX4 : Blk W4 w3.heap.size 27 #[.slice p.a1 (NL j).length p.c1, .slice p.a2 0 p.c2, .slice p.a3 0 p.c3] := by rw [← hW4]; exact Blk.new w3 27 _
      have hb4 : Below w3.heap.size w3 W4 := by rw [← hW4]; exact (Below.refl _ _).alloc (Nat.le_refl _) _
      have hz4 : W4.heap.size = w3.heap.size + 1 := by rw [← hW4]; simp
      have hX5 : Blk W5 W4.heap.size 30 #[.int .i64 0, .int .i64 0, .string ⟨#[]⟩] := by rw [← hW5]; exact Blk.new W4 30 _
      have hb5 : Below W4.heap.size W4 W5 := by rw [← hW5]; exact (Below.refl _ _).alloc (Nat.le_refl _) _
      have hz5 : W5.heap.size = W4.heap.size + 1 := by rw [← hW5]; simp
      rw [← hz4, ← hz5]
      have hb35 : Below w3.heap.size w3 W5 := hb4.trans (hb5.mono hb4.size)
      have hbs2 : Below W5.heap.size W5 (Lib.bytesWorld W5 5 (bs (tyL j))) := Go.Joins.below_bytesWorld _ _ _ _ (Nat.le_refl _)
      have hz6 : (Lib.bytesWorld W5 5 (bs (tyL j))).heap.size = W5.heap.size + 1 := Lib.bytesWorld_size _ _ _
      have hb05 : Below w.heap.size w W5 := HB1.out.trans ((HB13.out.trans (hb35.mono HB13.out.size)).mono HB1.out.size)
      have hE2 : Env (Lib.bytesWorld W5 5 (bs (tyL j))) := HE.out.on (hb05.trans (hbs2.mono hb05.size))
      have hT2 := text_bytes W5 (bs (tyL j))
      rw [tl_bs, ← hz6, hs5] at hT2
      have cB := ptype_any (lex_ty j (by omega)) (tyOk j) (by rw [ty_len]; omega) (typeM (tyT j) 256) (typeR_any (tyOk j) 256) (ty_type j (by omega)) (by rw [tyT_end]) (by rw [ty_len]; show 2 * j + 1 < 2 * j + 2; omega) (some ⟨W5.heap.size, 0, none⟩) (7 * j + 3) (grownCap W5 (7 * j + 3) 0 5) (Lib.bytesWorld W5 5 (bs (tyL j))) (by rw [← bs_size, hs5]) hE2 hT2
      dsimp only at cB
      refine cB.mono ?_
      rintro e w7 ⟨p2, rfl, hTB, hb7⟩
      have hb57 : Below W5.heap.size W5 w7 := hbs2.trans (hb7.mono hbs2.size)
      clear cB hT2 hE2 hbs2 hz6 kc
      go_upto_region 12 with fail
      obtain ⟨W8, hW8⟩ : ∃ W8, w7.alloc (.cells #[.slice p2.a1 0 p2.c1, .slice p2.a2 (YL j 0 0).length p2.c2, .slice p2.a3 0 p2.c3] 27) = W8 := ⟨_, rfl⟩
      obtain ⟨W9, hW9⟩ : ∃ W9, W8.alloc (.cells #[.int .i64 0, .int .i64 0, .string ⟨#[]⟩] 30) = W9 := ⟨_, rfl⟩
      rw [hW8, hW9]
      have hX8 : Blk W8 w7.heap.size 27 #[.slice p2.a1 0 p2.c1, .slice p2.a2 (YL j 0 0).length p2.c2, .slice p2.a3 0 p2.c3] := by rw [← hW8]; exact Blk.new w7 27 _
      have hb8 : Below w7.heap.size w7 W8 := by rw [← hW8]; exact (Below.refl _ _).alloc (Nat.le_refl _) _
      have hz8 : W8.heap.size = w7.heap.size + 1 := by rw [← hW8]; simp
      have hX9 : Blk W9 W8.heap.size 30 #[.int .i64 0, .int .i64 0, .string ⟨#[]⟩] := by rw [← hW9]; exact Blk.new W8 30 _
      have hb9 : Below W8.heap.size W8 W9 := by rw [← hW9]; exact (Below.refl _ _).alloc (Nat.le_refl _) _
      have hb79 : Below w7.heap.size w7 W9 := hb8.trans (hb9.mono hb8.size)
      have hb59 : Below W5.heap.size W5 W9 := hb57.trans (hb79.mono hb57.size)
      have hb39 : Below w3.heap.size w3 W9 := hb35.trans (hb59.mono hb35.size)
      have hb09 : Below w.heap.size w W9 := hb05.trans (hb59.mono hb05.size)
      rw [← hz8, ← hz4]
      have hNl := NL_length j
      have hYl := YL_length j 0 0
      have hX4' := (hX4.below hb5 hX4.lt).below hb59 (Nat.lt_of_lt_of_le hX4.lt hb5.size)
      have hX5' := hX5.below hb59 hX5.lt
      have hX8' := hX8.below hb9 hX8.lt
      rw [hNl] at hX4'
      rw [hYl] at hX8'
      have x60 := hX4'.cell 0
      have x70 := hX5'.cell 0
      have x81 := hX8'.cell 1
      have x90 := hX9.cell 0
      simp only [List.getElem?_toArray, List.getElem?_cons_zero, List.getElem?_cons_succ] at x60 x70 x81 x90
      have l4 := hX4'.lt
      have l5 := hX5'.lt
      have l8 := hX8'.lt
      obtain ⟨tN, _, _⟩ := HTA.out
      obtain ⟨_, tY, _⟩ := hTB
      obtain ⟨b1, o1, hpa, hb1, hc1⟩ := tN (by dsimp only; omega)
      obtain ⟨b3, o3, hpb, hb3, hc3⟩ := tY (by dsimp only; omega)
      have HCN : Hid (∀ i t, (NL j)[i]? = some t → ∃ q, TermOk (Lt W9.heap.size) W9 t q ∧ ∀ k u, (termCells t q)[k]? = some u → W9.cell? ⟨b1, o1 + i * 8 + k, none⟩ = some u) := Lib.hid (fun i t ht => by
        obtain ⟨q, hq, hqc⟩ := hc1 i t ht
        exact ⟨q, (hq.keep (fun b o hb => hb39.cell (p := ⟨b, o, none⟩) hb.2)).imp (fun b hb => Nat.lt_of_lt_of_le hb.2 hb39.size), fun k u hu => (hb39.cell (p := ⟨b1, _, none⟩) hb1.2).trans (hqc k u hu)⟩)
      have HCY : Hid (∀ i t, (YL j 0 0)[i]? = some t → ∃ q, TypOk (Lt W9.heap.size) W9 t q ∧ ∀ k u, (typCells t q)[k]? = some u → W9.cell? ⟨b3, o3 + i * 6 + k, none⟩ = some u) := Lib.hid (fun i t ht => by
        obtain ⟨q, hq, hqc⟩ := hc3 i t ht
        exact ⟨q, (hq.keep (fun b o hb => hb79.cell (p := ⟨b, o, none⟩) hb.2)).imp (fun b hb => Nat.lt_of_lt_of_le hb.2 hb79.size), fun k u hu => (hb79.cell (p := ⟨b3, _, none⟩) hb3.2).trans (hqc k u hu)⟩)
      have lb1 : b1 < W9.heap.size := Nat.lt_of_lt_of_le hb1.2 hb39.size
      have lb3 : b3 < W9.heap.size := Nat.lt_of_lt_of_le hb3.2 hb79.size
      try dsimp only at hpa hpb
      rw [hpa] at x60
      rw [hpb] at x81
      have HB09 := Lib.hid hb09
      clear tN tY hc1 hc3 hb1 hb3 hX4 hX5 hX8 hX4' hX5' hX8' hX9 hb8 hb9 hb79 hb59 hb39 hb09 hb57 hb7 hb05 hb35 hb5 hb4 hW4 hW5 hW8 hW9 hz4 hz5 hz8 hNl hYl hpa hpb HTA HB13 HB3
      go_upto_region 15 with fail
      go_wp2_with fail
      go_loopw [10, 11, 70] (fun u v c wr => ∃ m a i0 i1 : Nat, u = .int .i64 (i0 : Int) ∧ v = .int .i64 (i1 : Int) ∧ c = .int .i64 (m : Int) ∧ Hid (m + a = j ∧ i0 = 2 * a ∧ i1 = m + 2 * a) ∧ Below W9.heap.size W9 wr) (fun _ _ c _ => j - (intOf c).toNat)
      case atStart => exact ⟨0, j, 2 * j, 2 * j, by simp, by simp, rfl, Lib.hid ⟨by omega, rfl, by omega⟩, Below.refl _ _⟩
      case round =>
        obtain ⟨m, a, i0, i1, rfl, rfl, rfl, HI, hbw⟩ := hrel
        have hI := HI.out
        by_cases hlt : m < j
        · obtain ⟨a', rfl⟩ : ∃ a', a = a' + 1 := ⟨a - 1, by omega⟩
          obtain ⟨q, hq, hqc⟩ := HCN.out i0 _ (by rw [hI.2.1, show 2 * (a' + 1) = 2 * a' + 2 by omega]; exact (NL_at j a' (by omega)).1)
          obtain ⟨py, hpy⟩ := YL_fun j 0 0 m a' (by omega)
          rw [Nat.zero_add] at hpy
          obtain ⟨q', hq', hqc'⟩ := HCY.out i1 _ (by rw [hI.2.2, show m + 2 * (a' + 1) = m + 2 * a' + 2 by omega]; exact hpy)
          obtain ⟨q2, _, hqc2⟩ := HCN.out (2 * a' + 1) _ (NL_at j a' (by omega)).2
          obtain ⟨q3, _, hqc3⟩ := HCY.out m _ (YL_int j 0 0 m (by omega))
          obtain ⟨b2, o2, ha6, hb2, hk2⟩ := hq.2.1.2 (by show 0 < 2; decide)
          obtain ⟨b4, o4, ha4, hb4, hk4⟩ := hq'.2.2 (by show 0 < 2; decide)
          obtain ⟨e0, he0⟩ : ∃ e0, 2 * a' = e0 := ⟨_, rfl⟩
          obtain ⟨e1, he1⟩ : ∃ e1, 2 * a' + 1 = e1 := ⟨_, rfl⟩
          obtain ⟨e3, he3⟩ : ∃ e3, m + 2 * a' + 1 = e3 := ⟨_, rfl⟩
          have f0 : wr.cell? ⟨b1, o1 + i0 * 8, none⟩ = some (.int .i64 14) := (hbw.cell (p := ⟨b1, o1 + i0 * 8, none⟩) lb1).trans (hqc 0 _ rfl)
          have f1 : wr.cell? ⟨b1, o1 + i0 * 8 + 1, none⟩ = some (.int .i64 ((4 * a' + 2 : Nat) : Int)) := (hbw.cell (p := ⟨b1, o1 + i0 * 8 + 1, none⟩) lb1).trans (hqc 1 _ rfl)
          have f2 : wr.cell? ⟨b1, o1 + i0 * 8 + 2, none⟩ = some (.string (bs [43])) := (hbw.cell (p := ⟨b1, o1 + i0 * 8 + 2, none⟩) lb1).trans (hqc 2 _ rfl)
          have f3 : wr.cell? ⟨b1, o1 + i0 * 8 + 3, none⟩ = some (.int .i64 0) := (hbw.cell (p := ⟨b1, o1 + i0 * 8 + 3, none⟩) lb1).trans (hqc 3 _ rfl)
          have f4 : wr.cell? ⟨b1, o1 + i0 * 8 + 4, none⟩ = some (.int .u64 0) := (hbw.cell (p := ⟨b1, o1 + i0 * 8 + 4, none⟩) lb1).trans (hqc 4 _ rfl)
          have f5 : wr.cell? ⟨b1, o1 + i0 * 8 + 5, none⟩ = some (.slice q.a5 0 q.c5) := (hbw.cell (p := ⟨b1, o1 + i0 * 8 + 5, none⟩) lb1).trans (hqc 5 _ rfl)
          have f6 : wr.cell? ⟨b1, o1 + i0 * 8 + 6, none⟩ = some (.slice (some ⟨b2, o2, none⟩) 2 q.c6) := (hbw.cell (p := ⟨b1, o1 + i0 * 8 + 6, none⟩) lb1).trans (by rw [← ha6]; exact hqc 6 _ rfl)
          have f7 : wr.cell? ⟨b1, o1 + i0 * 8 + 7, none⟩ = some (.slice q.a7 0 q.c7) := (hbw.cell (p := ⟨b1, o1 + i0 * 8 + 7, none⟩) lb1).trans (hqc 7 _ rfl)
          have g0 : wr.cell? ⟨b3, o3 + i1 * 6, none⟩ = some (.int .i64 7) := (hbw.cell (p := ⟨b3, o3 + i1 * 6, none⟩) lb3).trans (hqc' 0 _ rfl)
          have g1 : wr.cell? ⟨b3, o3 + i1 * 6 + 1, none⟩ = some (.int .i64 (py : Int)) := (hbw.cell (p := ⟨b3, o3 + i1 * 6 + 1, none⟩) lb3).trans (hqc' 1 _ rfl)
          have g2 : wr.cell? ⟨b3, o3 + i1 * 6 + 2, none⟩ = some (.string (bs [])) := (hbw.cell (p := ⟨b3, o3 + i1 * 6 + 2, none⟩) lb3).trans (hqc' 2 _ rfl)
          have g3 : wr.cell? ⟨b3, o3 + i1 * 6 + 3, none⟩ = some (.slice q'.a3 0 q'.c3) := (hbw.cell (p := ⟨b3, o3 + i1 * 6 + 3, none⟩) lb3).trans (hqc' 3 _ rfl)
          have g4 : wr.cell? ⟨b3, o3 + i1 * 6 + 4, none⟩ = some (.slice (some ⟨b4, o4, none⟩) 2 q'.c4) := (hbw.cell (p := ⟨b3, o3 + i1 * 6 + 4, none⟩) lb3).trans (by rw [← ha4]; exact hqc' 4 _ rfl)
          have g5 : wr.cell? ⟨b3, o3 + i1 * 6 + 5, none⟩ = some (.bool false) := (hbw.cell (p := ⟨b3, o3 + i1 * 6 + 5, none⟩) lb3).trans (hqc' 5 _ rfl)
          have k0 : wr.cell? ⟨b2, o2, none⟩ = some (.int .i64 (e0 : Int)) := (hbw.cell (p := ⟨b2, o2, none⟩) hb2).trans (hk2 0 _ (by rw [← he0]; rfl))
          have k1 : wr.cell? ⟨b2, o2 + 1, none⟩ = some (.int .i64 (e1 : Int)) := (hbw.cell (p := ⟨b2, o2 + 1, none⟩) hb2).trans (hk2 1 _ (by rw [← he1]; rfl))
          have k2 : wr.cell? ⟨b4, o4, none⟩ = some (.int .i64 (m : Int)) := (hbw.cell (p := ⟨b4, o4, none⟩) hb4).trans (hk4 0 _ rfl)
          have k3 : wr.cell? ⟨b4, o4 + 1, none⟩ = some (.int .i64 (e3 : Int)) := (hbw.cell (p := ⟨b4, o4 + 1, none⟩) hb4).trans (hk4 1 _ (by rw [← he3]; rfl))
          have h1 : wr.cell? ⟨b1, o1 + e1 * 8, none⟩ = some (.int .i64 1) := (hbw.cell (p := ⟨b1, o1 + e1 * 8, none⟩) lb1).trans (by rw [← he1]; exact hqc2 0 _ rfl)
          have h3 : wr.cell? ⟨b3, o3 + m * 6, none⟩ = some (.int .i64 0) := (hbw.cell (p := ⟨b3, o3 + m * 6, none⟩) lb3).trans (hqc3 0 _ rfl)
          have t6 : wr.cell? ⟨w3.heap.size, 0, none⟩ = some (.slice (some ⟨b1, o1, none⟩) (2 * j + 1) p.c1) := (hbw.cell (p := ⟨w3.heap.size, 0, none⟩) l4).trans (x60)
          have t8 : wr.cell? ⟨w7.heap.size, 1, none⟩ = some (.slice (some ⟨b3, o3, none⟩) (2 * j + 1) p2.c2) := (hbw.cell (p := ⟨w7.heap.size, 1, none⟩) l8).trans (x81)
          have n1 : (i0 : Int) < 2 * (j : Int) + 1 := by have := hI.1; have := hI.2.1; omega
          have n2 : (i1 : Int) < 2 * (j : Int) + 1 := by have := hI.1; have := hI.2.2; omega
          have n3 : (e1 : Int) < 2 * (j : Int) + 1 := by have := hI.1; omega
          have n4 : (m : Int) < 2 * (j : Int) + 1 := by omega
          have HE0 := Lib.hid he0
          have HE1 := Lib.hid he1
          have HE3 := Lib.hid he3
          have HBW := Lib.hid hbw
          have hb2' : b2 < W9.heap.size := hb2
          have hb4' : b4 < W9.heap.size := hb4
          have hbw' := hbw
          have lw1 : w3.heap.size < wr.heap.size := Nat.lt_of_lt_of_le l4 hbw.size
          have lw2 : w7.heap.size < wr.heap.size := Nat.lt_of_lt_of_le l8 hbw.size
          have lw3 : b1 < wr.heap.size := Nat.lt_of_lt_of_le lb1 hbw.size
          have lw4 : b3 < wr.heap.size := Nat.lt_of_lt_of_le lb3 hbw.size
          clear hq hqc hq' hqc' hqc2 hqc3 hb2 hb4 hk2 hk4 ha6 ha4 hpy hI he0 he1 he3 x60 x81 hbw x70 x90
          have lw5 : b2 < wr.heap.size := Nat.lt_of_lt_of_le hb2' hbw'.size
          have lw6 : b4 < wr.heap.size := Nat.lt_of_lt_of_le hb4' hbw'.size
          clear hb2' hb4' hbw'
          go_upto_region 17 with fail
          go_region
          all_goals clear f0 f1 f2 f3 f4 f5 f6 f7 g0 g1 g2 g3 g4 g5
          · obtain ⟨Wa, hWa⟩ : ∃ Wa, wr.alloc (.cells #[.int .i64 14, .int .i64 (4 * (a' : Int) + 2), .string (bs [43]), .int .i64 0, .int .u64 0, .slice q.a5 0 q.c5, .slice (some ⟨b2, o2, none⟩) 2 q.c6, .slice q.a7 0 q.c7] 38) = Wa := ⟨_, rfl⟩
            obtain ⟨Wb, hWb⟩ : ∃ Wb, Wa.alloc (.cells #[.int .i64 7, .int .i64 (py : Int), .string (bs []), .slice q'.a3 0 q'.c3, .slice (some ⟨b4, o4, none⟩) 2 q'.c4, .bool false] 40) = Wb := ⟨_, rfl⟩
            have hza : Wa.heap.size = wr.heap.size + 1 := by rw [← hWa]; simp
            have hba : Below wr.heap.size wr Wa := by rw [← hWa]; exact (Below.refl _ _).alloc (Nat.le_refl _) _
            have hbb : Below Wa.heap.size Wa Wb := by rw [← hWb]; exact (Below.refl _ _).alloc (Nat.le_refl _) _
            have hA : Blk Wa wr.heap.size 38 #[.int .i64 14, .int .i64 (4 * (a' : Int) + 2), .string (bs [43]), .int .i64 0, .int .u64 0, .slice q.a5 0 q.c5, .slice (some ⟨b2, o2, none⟩) 2 q.c6, .slice q.a7 0 q.c7] := by rw [← hWa]; exact Blk.new wr 38 _
            have hA2 := hA.below hbb hA.lt
            have hB : Blk Wb Wa.heap.size 40 #[.int .i64 7, .int .i64 (py : Int), .string (bs []), .slice q'.a3 0 q'.c3, .slice (some ⟨b4, o4, none⟩) 2 q'.c4, .bool false] := by rw [← hWb]; exact Blk.new Wa 40 _
            have hab : Below wr.heap.size wr Wb := hba.trans (hbb.mono hba.size)
            rw [hWa, hWb, ← hza]
            have v0 := hA2.cell 0
            have v6 := hA2.cell 6
            have u0 := hB.cell 0
            have u4 := hB.cell 4
            simp only [List.getElem?_toArray, List.getElem?_cons_zero, List.getElem?_cons_succ] at v0 v6 u0 u4
            have k0' := (hab.cell (p := ⟨b2, o2, none⟩) lw5).trans k0
            have k1' := (hab.cell (p := ⟨b2, o2 + 1, none⟩) lw5).trans k1
            have k2' := (hab.cell (p := ⟨b4, o4, none⟩) lw6).trans k2
            have k3' := (hab.cell (p := ⟨b4, o4 + 1, none⟩) lw6).trans k3
            have h1' := (hab.cell (p := ⟨b1, o1 + e1 * 8, none⟩) lw3).trans h1
            have h3' := (hab.cell (p := ⟨b3, o3 + m * 6, none⟩) lw4).trans h3
            have t6' := (hab.cell (p := ⟨w3.heap.size, 0, none⟩) lw1).trans t6
            have t8' := (hab.cell (p := ⟨w7.heap.size, 1, none⟩) lw2).trans t8
            have HAB := Lib.hid (HBW.out.trans (hab.mono HBW.out.size))
            clear hA hA2 hB hab hba hbb hWa hWb k0 k1 k2 k3 h1 h3 t6 t8 hza
            go_upto_region 18 with fail
            go_quiet (fail)
            go_upto_region 20 with fail
            go_quiet (fail)
            go_wp2_with fail
            have hI := HI.out
            have q0 := HE0.out
            have q3 := HE3.out
            exact ⟨⟨m + 1, a', e0, e3, rfl, rfl, by simp, Lib.hid ⟨by omega, by omega, by omega⟩, ⟨HAB.out.os, HAB.out.tape, HAB.out.output, HAB.out.size, HAB.out.block⟩⟩, by simp [intOf]; omega⟩
          · obtain ⟨Wa, hWa⟩ : ∃ Wa, wr.alloc (.cells #[.int .i64 7, .int .i64 (py : Int), .string (bs []), .slice q'.a3 0 q'.c3, .slice (some ⟨b4, o4, none⟩) 2 q'.c4, .bool false] 40) = Wa := ⟨_, rfl⟩
            obtain ⟨Wb, hWb⟩ : ∃ Wb, Wa.alloc (.cells #[.int .i64 14, .int .i64 (4 * (a' : Int) + 2), .string (bs [43]), .int .i64 0, .int .u64 0, .slice q.a5 0 q.c5, .slice (some ⟨b2, o2, none⟩) 2 q.c6, .slice q.a7 0 q.c7] 38) = Wb := ⟨_, rfl⟩
            have hza : Wa.heap.size = wr.heap.size + 1 := by rw [← hWa]; simp
            have hba : Below wr.heap.size wr Wa := by rw [← hWa]; exact (Below.refl _ _).alloc (Nat.le_refl _) _
            have hbb : Below Wa.heap.size Wa Wb := by rw [← hWb]; exact (Below.refl _ _).alloc (Nat.le_refl _) _
            have hA : Blk Wa wr.heap.size 40 #[.int .i64 7, .int .i64 (py : Int), .string (bs []), .slice q'.a3 0 q'.c3, .slice (some ⟨b4, o4, none⟩) 2 q'.c4, .bool false] := by rw [← hWa]; exact Blk.new wr 40 _
            have hA2 := hA.below hbb hA.lt
            have hB : Blk Wb Wa.heap.size 38 #[.int .i64 14, .int .i64 (4 * (a' : Int) + 2), .string (bs [43]), .int .i64 0, .int .u64 0, .slice q.a5 0 q.c5, .slice (some ⟨b2, o2, none⟩) 2 q.c6, .slice q.a7 0 q.c7] := by rw [← hWb]; exact Blk.new Wa 38 _
            have hab : Below wr.heap.size wr Wb := hba.trans (hbb.mono hba.size)
            rw [hWa, hWb, ← hza]
            have v0 := hB.cell 0
            have v6 := hB.cell 6
            have u0 := hA2.cell 0
            have u4 := hA2.cell 4
            simp only [List.getElem?_toArray, List.getElem?_cons_zero, List.getElem?_cons_succ] at v0 v6 u0 u4
            have k0' := (hab.cell (p := ⟨b2, o2, none⟩) lw5).trans k0
            have k1' := (hab.cell (p := ⟨b2, o2 + 1, none⟩) lw5).trans k1
            have k2' := (hab.cell (p := ⟨b4, o4, none⟩) lw6).trans k2
            have k3' := (hab.cell (p := ⟨b4, o4 + 1, none⟩) lw6).trans k3
            have h1' := (hab.cell (p := ⟨b1, o1 + e1 * 8, none⟩) lw3).trans h1
            have h3' := (hab.cell (p := ⟨b3, o3 + m * 6, none⟩) lw4).trans h3
            have t6' := (hab.cell (p := ⟨w3.heap.size, 0, none⟩) lw1).trans t6
            have t8' := (hab.cell (p := ⟨w7.heap.size, 1, none⟩) lw2).trans t8
            have HAB := Lib.hid (HBW.out.trans (hab.mono HBW.out.size))
            clear hA hA2 hB hab hba hbb hWa hWb k0 k1 k2 k3 h1 h3 t6 t8 hza
            go_upto_region 18 with fail
            go_quiet (fail)
            go_upto_region 20 with fail
            go_quiet (fail)
            go_wp2_with fail
            have hI := HI.out
            have q0 := HE0.out
            have q3 := HE3.out
            exact ⟨⟨m + 1, a', e0, e3, rfl, rfl, by simp, Lib.hid ⟨by omega, by omega, by omega⟩, ⟨HAB.out.os, HAB.out.tape, HAB.out.output, HAB.out.size, HAB.out.block⟩⟩, by simp [intOf]; omega⟩
        · have hj : m = j := by have := hI.1; omega
          obtain rfl := hj
          have ha0 : a = 0 := by have := hI.1; omega
          have hi0 : i0 = 0 := by have := hI.2.1; omega
          have hi1 : i1 = m := by have := hI.2.2; omega
          subst hi0
          subst hi1
          obtain ⟨q2, _, hqc2⟩ := HCN.out 0 _ (NL_zero i1)
          obtain ⟨q3, _, hqc3⟩ := HCY.out i1 _ (YL_int i1 0 0 i1 (Nat.le_refl _))
          have h1 : wr.cell? ⟨b1, o1, none⟩ = some (.int .i64 1) := (hbw.cell (p := ⟨b1, o1, none⟩) lb1).trans (by have := hqc2 0 _ rfl; simpa [nInt] using this)
          have h2 : wr.cell? ⟨b1, o1 + 1, none⟩ = some (.int .i64 0) := (hbw.cell (p := ⟨b1, o1 + 1, none⟩) lb1).trans (by have := hqc2 1 _ rfl; simpa [nInt] using this)
          have h3 : wr.cell? ⟨b3, o3 + i1 * 6, none⟩ = some (.int .i64 0) := (hbw.cell (p := ⟨b3, o3 + i1 * 6, none⟩) lb3).trans (hqc3 0 _ rfl)
          have t6 : wr.cell? ⟨w3.heap.size, 0, none⟩ = some (.slice (some ⟨b1, o1, none⟩) (2 * i1 + 1) p.c1) := (hbw.cell (p := ⟨w3.heap.size, 0, none⟩) l4).trans x60
          have t8 : wr.cell? ⟨w7.heap.size, 1, none⟩ = some (.slice (some ⟨b3, o3, none⟩) (2 * i1 + 1) p2.c2) := (hbw.cell (p := ⟨w7.heap.size, 1, none⟩) l8).trans x81
          have n4 : (i1 : Int) < 2 * (i1 : Int) + 1 := by omega
          have HBE := Lib.hid (HB09.out.trans (hbw.mono HB09.out.size))
          clear hqc2 hqc3 hI hbw x60 x81 x70 x90 hlt
          go_wp2_with fail
          go_ret
          exact ⟨rfl, HBE.out⟩
end Go.Proofs.YtidmeodmkcomlaaGreatDoor
