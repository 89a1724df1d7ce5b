/- A blank ahead of a text: each place is -/
import Derived.Test.YtidmeodmkcomlaaGreatDoorL16
import Derived.Test.YtidmeodmkcomlaaGreatDoorL29
import Derived.Lib.SlBytesConst
namespace Go.Proofs.YtidmeodmkcomlaaGreatDoor
open Go Go.Proofs Go.RowKit
theorem bd_on : ∀ (n : Nat) (l : List UInt8) (k d : Nat), l.length ≤ n → bd l (k + d) = bd l k + d := by
 intro n
 induction n with
 | zero => intro l k d h; rw [zcw _ _ (by omega), zcw _ _ (by omega)]
 | succ n ih =>
  intro l k d h;by_cases h0 : 0 < l.length
  · by_cases hb : isBad l
    · rw [zfe _ _ hb, zfe _ _ hb]
    · have := zbl l h0
      rw [zd3 _ _ h0 hb, zd3 _ _ h0 hb, show k + d + (D l).2 = k + (D l).2 + d by omega];exact ih _ _ _ (by simp only [zKa]; omega)
  · rw [zcw _ _ (by omega), zcw _ _ (by omega)]
theorem zjy (c : UInt8) (l : List UInt8) (h : c.toNat < 128) : D (c :: l) = (c.toNat, 1) := by
 unfold D Go.Lib.decodeN;simp [h]
theorem zgy (c : UInt8) (l : List UInt8) (h : c.toNat < 128) (k : Nat) : bd (c :: l) k = bd l k + 1 := by
 have hD := zjy c l h;have hb : ¬ isBad (c :: l) := by unfold isBad; rw [hD]; simp; omega
 rw [zd3 _ _ (by simp) hb, hD];exact bd_on _ l k 1 (zJw _)
theorem zto : ∀ (n : Nat) (l : List UInt8) (k d : Nat), l.length ≤ n → lexR l (k + d) = (match lexR l k with | .ok ts => .ok (ts.map (shK d)) | .error p => .error (p + d)) := by
 intro n
 induction n with
 | zero =>
  intro l k d h;have : l = [] := List.eq_nil_of_length_eq_zero (by omega);subst this;rw [zaz _ _ (by simp), zaz _ _ (by simp)];simp [zax, shK]
 | succ n ih =>
  intro l k d h;by_cases h0 : l.drop (skipN l) = []
  · rw [zaz _ _ h0, zaz _ _ h0]
    simp [shK]; omega
  · cases ht : tok (l.drop (skipN l)) with
    | none =>
     rw [zcd _ _ h0 ht, zcd _ _ h0 ht];simp; omega
    | some x =>
     obtain ⟨t, m⟩ := x;have hm := zg2 ht;rw [zbw _ _ _ _ ht, zbw _ _ _ _ ht, show k + d + skipN l + m = k + skipN l + m + d by omega, ih _ _ d (by simp only [zKa] at hm ⊢; omega)]
     cases lexR (l.drop (skipN l + m)) (k + skipN l + m) with
     | ok ts => simp [prep, shK]; omega
     | error p => rfl
theorem zv9 {l : List UInt8} (hl : l.length ≤ 16000) : lexA (32 :: l) = (match lexA l with | .ok ts => .ok (ts.map (shK 1)) | .error (c, p) => .error (c, p + 1)) := by
 unfold lexA;rw [if_neg (show ¬ 1048576 < (32 :: l).length by simp only [zK2]; omega), if_neg (show ¬ 1048576 < l.length by omega), zgy 32 l (by decide), zbf 32 l 0 (by decide), zto _ l 0 1 (zJw _)];by_cases hb : bd l 0 < l.length
 · rw [if_pos hb, if_pos (by simp only [zK2]; omega)]
 · rw [if_neg hb, if_neg (by simp only [zK2]; omega)]
   cases lexR l 0 <;> rfl
theorem zt4 {ts : List Tk} (hT : TsOk ts) : Alike ts (ts.map (shK 1)) ⟨0, 1, 0⟩ True where
 tok := fun k hk => by
  unfold tkA;rw [tai, zK3, zK3, tac, zK1 (by omega)];rfl
 last := fun k hk => by
  have e : tkA (ts.map (shK 1)) (0 + k) = shK 1 (tkA ts k) := by
   unfold tkA;rw [tai, zK3, zK3, tac, zK1 (by omega)];rfl
  exact ⟨.inl (by show (tkA (ts.map (shK 1)) (0 + k)).1 = 0; rw [e]; exact zib hT hk), fun _ => e⟩
 so := fun _ => rfl
def TreeD.sh (d : Nat) (t : TreeD) : TreeD := ⟨t.nodes.map (shT d), t.types.map (shY d), t.aliases.map (shA d)⟩
theorem zJ7 {l : List UInt8} (hl : l.length ≤ 15000) : (∀ t, textR l = .ok t → textR (32 :: l) = .ok (t.sh 1)) ∧ (∀ c q, textR l = .error (c, q) → ∃ q', textR (32 :: l) = .error (c, q') ∧ (q' = q + 1 ∨ c = 6)) := by
 have hb := zv9 (l := l) (by omega);unfold textR readM;rw [hb]
 cases hA : lexA l with
 | error e =>
  obtain ⟨c, q⟩ := e;refine ⟨fun t h => (by cases h), fun c' q' h => ?_⟩;injection h with h
  injection h with h1 h2
  subst h1; subst h2;exact ⟨_, rfl, .inl rfl⟩
 | ok ts =>
  have hT := zc8 hA (by omega);have hT2 : TsOk (ts.map (shK 1)) := zc8 (l := 32 :: l) (by rw [hb, hA]) (by simp only [zK2]; omega);have hF := zt4 hT;have hg := zgg (q := False) hT 257 (.inr (zJw _)) St.zero hT.pos rfl;have hg2 := zgg (q := False) hT2 257 (.inr (zJw _)) St.zero hT2.pos rfl;have hs := zDk (F := ⟨0, 1, 0⟩) hF hT 257 257 (by decide) (s := St.zero) hT.pos rfl;have hz : St.zero.sh ⟨0, 1, 0⟩ = St.zero := rfl;rw [hz] at hs;dsimp only
  cases hM : textM ts 257 St.zero with
  | un => rw [hM] at hg; exact hg.elim
  | bad c q =>
   rw [hM] at hs;rcases hs with hs | hs
   · rw [hs] at hg2; exact hg2.elim
   rw [hs trivial];refine ⟨fun t h => (by cases h), fun c' q' h => ?_⟩;injection h with h
   injection h with h1 h2
   subst h1; subst h2;refine ⟨_, rfl, ?_⟩;by_cases h6 : c = 6
   · exact .inr h6
   · exact .inl (by rw [if_neg h6])
  | ok u s' =>
   rw [hM] at hs hg;rcases hs with hs | ⟨h0, _⟩ | ⟨_, _, hs⟩
   · rw [hs] at hg2; exact hg2.elim
   · exact absurd h0 (by decide)
   rw [hs];dsimp only;have e : tkA (ts.map (shK 1)) (s'.sh ⟨0, 1, 0⟩).k = shK 1 (tkA ts s'.k) := hF.st_ hg.2.1 trivial;rw [e];by_cases hE : (tkA ts s'.k).1 = 0
   · rw [if_pos hE, if_pos (show (shK 1 (tkA ts s'.k)).1 = 0 from hE)]
     refine ⟨fun t h => ?_, fun c q h => (by cases h)⟩;injection h with h
     subst h;rfl
   · rw [if_neg hE, if_neg (show ¬ (shK 1 (tkA ts s'.k)).1 = 0 from hE)]
     refine ⟨fun t h => (by cases h), fun c q h => ?_⟩;injection h with h
     injection h with h1 h2
     subst h1; subst h2;exact ⟨_, rfl, .inl rfl⟩
theorem zbr (c : UInt8) (r : List UInt8) (k : Nat) (t : Nat × List UInt8) (n : Nat) (h : zc3 c = false) (hn : noteB (c :: r) = false) (ht : tok (c :: r) = some (t, n)) :
 lexR (c :: r) k = prep [(t.1, t.2, k)] (lexR ((c :: r).drop n) (k + n)) := by
 have hz := zcx c r h hn;have := zbw (c :: r) k t n (by rw [hz]; exact ht);rw [hz] at this;simpa using this
theorem zg3 : ∀ (l : List UInt8), (∀ c ∈ l, c.toNat < 128) → bd l 0 = l.length
 | [], _ => zcw [] 0 rfl
 | c :: r, h => by rw [zgy c r (h c (by simp)), zg3 r (fun x hx => h x (by simp [hx]))]; rfl
def exL : List UInt8 := [102, 32, 120, 46, 97]
def exT : List Tk := [(1, [102], 0), (1, [120], 2), (8, [46], 3), (1, [97], 4), (0, [], 5)]
theorem exLex : lexA exL = .ok exT := by
 have h : lexR exL 0 = .ok exT := by
  unfold exL;rw [zbr 102 _ 0 (1, [102]) 1 (by decide) (by decide) (by decide)];dsimp only [List.drop];rw [zbf 32 _ _ (by decide), zbr 120 _ _ (1, [120]) 1 (by decide) (by decide) (by decide)];dsimp only [List.drop];rw [zbr 46 _ _ (8, [46]) 1 (by decide) (by decide) (by decide)];dsimp only [List.drop];rw [zbr 97 _ _ (1, [97]) 1 (by decide) (by decide) (by decide)];dsimp only [List.drop];rw [zaz [] _ (by rw [zax]; rfl), zax];rfl
 unfold lexA;rw [if_neg (by decide), zg3 exL (by decide), if_neg (by decide), h]
def exTree : List TermD := [⟨0, 0, bs [102], 0, 0, [], [], []⟩, ⟨0, 2, bs [120], 0, 0, [], [], []⟩, ⟨13, 3, bs [97], 0, 0, [], [1], []⟩, ⟨6, 2, bs [], 0, 0, [], [0, 2], []⟩]
theorem zna : textM exT 257 St.zero = .ok () ⟨4, 0, exTree, [], [], []⟩ := by rfl
theorem zI4 : textR exL = .ok ⟨exTree, [], []⟩ := by
 unfold textR readM;rw [exLex];dsimp only;rw [zna];rfl
theorem zr5 (n₀ : Nat) (w : World) (cs : Array Value) (fz : Nat × Nat) (l : List UInt8) (hc : cs = (zai l).toArray) (h : w.heap.size < n₀) : TextAt n₀ (w.alloc (.cells cs 5 fz)) (.slice (some ⟨w.heap.size, 0, none⟩) l.length l.length) l := by
 subst hc;refine .inr ⟨w.heap.size, 0, l.length, rfl, h, zJw _, ?_⟩;intro j hj;have hn := World.alloc_heap_new w (.cells (zai l).toArray 5 fz);simp only [World.cell?, hn];simp [zai, zK1 hj]
end Go.Proofs.YtidmeodmkcomlaaGreatDoor
