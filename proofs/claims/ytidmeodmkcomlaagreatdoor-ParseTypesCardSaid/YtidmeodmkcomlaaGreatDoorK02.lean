/- The smallest of the lexer's functions: which bytes are digits, names' and aliases', and how many of them stand ahead; at every string. -/
import Derived.Test.YtidmeodmkcomlaaGreatDoorK01
import Derived.Test.YtidmeodmkcomlaaGreatDoorProg
import Derived.WalkKit
import Derived.WalkLawsBesides
import Derived.Outline
import Derived.Laws.EntriesVeiled
import Derived.RangeFuncBox
set_option linter.unusedSimpArgs false
set_option linter.unusedVariables false
namespace Go.Proofs.YtidmeodmkcomlaaGreatDoor
open Go Go.Proofs Go.RowKit
set_option maxHeartbeats 1000000
theorem za7 {a b : Bool} (h : a = b) : Ending.returned (.bool a) = .returned (.bool b) := by rw [h]
theorem zgl {k : IntKind} {a b : Nat} (h : a = b) : Ending.returned (.int k a) = .returned (.int k b) := by rw [h]
theorem zeg (c : UInt8) (w : World) : Calls Tryz.prog 104 #[.int .u8 (c.toNat : Int)] w fun e w' => e = .returned (.bool (digB c)) ∧ w = w' := by
 have h := c.toNat_lt;by_cases h1 : 48 ≤ c.toNat
 all_goals
  go_enter Tryz.func104, Tryz.ntmps104
  go_wp2
  go_ret;exact ⟨za7 (by rw [zJz]; simp [digB]; omega), rfl⟩
theorem ztn (c : UInt8) (w : World) : Calls Tryz.prog 131 #[.int .u8 (c.toNat : Int)] w fun e w' => e = .returned (.bool (lowB c)) ∧ w = w' := by
 have h := c.toNat_lt;by_cases h1 : 97 ≤ c.toNat
 · by_cases h2 : c.toNat ≤ 122
   all_goals
    go_enter Tryz.func131, Tryz.ntmps131
    go_wp2
    go_ret;exact ⟨za7 (by rw [zJz]; simp [lowB]; omega), rfl⟩
 · go_enter Tryz.func131, Tryz.ntmps131
   go_wp2
   go_ret;exact ⟨za7 (by rw [zJz]; simp [lowB]; omega), rfl⟩
theorem zqn (c : UInt8) (w : World) : Calls Tryz.prog 133 #[.int .u8 (c.toNat : Int)] w fun e w' => e = .returned (.bool (highB c)) ∧ w = w' := by
 have h := c.toNat_lt;by_cases h1 : 65 ≤ c.toNat
 all_goals
  go_enter Tryz.func133, Tryz.ntmps133
  go_wp2
  go_ret;exact ⟨za7 (by rw [zJz]; simp [highB]; omega), rfl⟩
theorem zCq (c : UInt8) (g : Nat) (w : World) (hg : w.cell? ⟨g, 0, none⟩ = some (.func (.func 131) #[] #[])) : Calls Tryz.prog 132 #[.int .u8 (c.toNat : Int), .pointer (some ⟨g, 0, none⟩)] w fun e w' => e = .returned (.bool (zbj c)) ∧ w = w' := by
 have h := c.toNat_lt;have k := ztn c;unfold zbj;cases h1 : lowB c
 all_goals
  rw [h1] at k;go_enter Tryz.func132, Tryz.ntmps132
  go_wp2_with (first | (go_at_call 131; refine (k _).mono ?_; rintro e w' ⟨rfl, rfl⟩) | (go_at_call 104; refine (zeg _ _).mono ?_; rintro e w' ⟨rfl, rfl⟩))
  go_ret;exact ⟨rfl, rfl⟩
theorem zG6 (c : UInt8) (g : Nat) (w : World) (hg : w.cell? ⟨g, 0, none⟩ = some (.func (.func 133) #[] #[])) : Calls Tryz.prog 134 #[.int .u8 (c.toNat : Int), .pointer (some ⟨g, 0, none⟩)] w fun e w' => e = .returned (.bool (aliB c)) ∧ w = w' := by
 have h := c.toNat_lt;have k := zqn c;unfold aliB;cases h1 : highB c
 · rw [h1] at k
   by_cases h2 : 97 ≤ c.toNat
   · by_cases h3 : c.toNat ≤ 122
     all_goals
      go_enter Tryz.func134, Tryz.ntmps134
      go_wp2_with (first | (go_at_call 133; refine (k _).mono ?_; rintro e w' ⟨rfl, rfl⟩) | (go_at_call 104; refine (zeg _ _).mono ?_; rintro e w' ⟨rfl, rfl⟩))
      go_ret;exact ⟨za7 (by rw [zJz]; simp [zb9, digB]; omega), rfl⟩
   · go_enter Tryz.func134, Tryz.ntmps134
     go_wp2_with (first | (go_at_call 133; refine (k _).mono ?_; rintro e w' ⟨rfl, rfl⟩) | (go_at_call 104; refine (zeg _ _).mono ?_; rintro e w' ⟨rfl, rfl⟩))
     go_ret;exact ⟨za7 (by rw [zJz]; simp [zb9, digB]; omega), rfl⟩
 · rw [h1] at k
   go_enter Tryz.func134, Tryz.ntmps134
   go_wp2_with (first | (go_at_call 133; refine (k _).mono ?_; rintro e w' ⟨rfl, rfl⟩) | (go_at_call 104; refine (zeg _ _).mono ?_; rintro e w' ⟨rfl, rfl⟩))
   go_ret;exact ⟨rfl, rfl⟩
def tl (s : ByteArray) : List UInt8 := s.data.toList
theorem zab (s : ByteArray) : (tl s).length = s.size := by simp [tl]
theorem zd6 (s : ByteArray) (k : Nat) (h : k < s.size) : (tl s).drop k = s[k] :: (tl s).drop (k + 1) := by
 unfold tl;rw [List.drop_eq_getElem_cons (by simpa using h)]; rfl
theorem ziz {α : Type} (p : α → Bool) (xs : List α) (h : ∀ y ∈ xs, p y = true) : xs.takeWhile p = xs := by
 have := List.takeWhile_append_of_pos (l₂ := []) h;simpa using this
theorem zi2 {α : Type} (p : α → Bool) (xs : List α) (x : α) (ys : List α) (h : ∀ y ∈ xs, p y = true) (hx : p x = false) : (xs ++ x :: ys).takeWhile p = xs := by
 rw [List.takeWhile_append_of_pos h];simp [hx]
theorem zGe (q : UInt8 → Bool) (l : List UInt8) (k : Nat) (h : k ≤ l.length) (h2 : ∀ j (hj : j < k), q (l[j]'(by omega)) = true) (h3 : k = l.length ∨ ∃ hk : k < l.length, q (l[k]'hk) = false) : (l.takeWhile q).length = k := by
 have e : l.takeWhile q = l.take k := by
  rcases h3 with h3 | ⟨hk, h3⟩
  · subst h3
    rw [List.take_length];refine ziz _ _ fun x hx => ?_;obtain ⟨j, hj, rfl⟩ := zKo hx;exact h2 j hj
  · have hs : l = l.take k ++ l[k] :: l.drop (k + 1) := by rw [List.getElem_cons_drop, List.take_append_drop]
    conv => lhs; rw [hs]
    refine zi2 _ _ _ _ (fun x hx => ?_) h3;obtain ⟨j, hj, rfl⟩ := zKo hx;simp at hj
    simp only [List.getElem_take];exact h2 j (by omega)
 rw [e]; simp; omega
theorem zdn (s : ByteArray) : (s.toList == []) = decide (s.size = 0) := by
 rw [ByteArray.toList_eq, zJz];have : s.size = s.data.toList.length := by simp
 rw [this, decide_eq_true_iff, List.length_eq_zero_iff];simp
theorem zl1 (p q : UInt8 → Bool) (s : ByteArray) (hpos : 0 < s.size) (hp : p (s[0]'hpos) = true) (k : Nat) (hk1 : 1 ≤ k) (hk2 : k ≤ s.size) (hj : ∀ j (hj : j < s.size), 1 ≤ j → j < k → q (s[j]'hj) = true)
 (he : k = s.size ∨ ∃ hk : k < s.size, q (s[k]'hk) = false) : spanN p q (tl s) = k := by
 have hd := zd6 s 0 hpos;rw [List.drop_zero] at hd;rw [hd, zdg _ _ _ _ hp];have : ((tl s).drop 1).length = s.size - 1 := by rw [zKa, zab]
 have g : ∀ j (hj : j < ((tl s).drop 1).length), ((tl s).drop 1)[j] = s[j + 1]'(by rw [this] at hj; omega) := fun j hj => by
  simp only [List.getElem_drop];unfold tl;simp only [Array.getElem_toList, show 1 + j = j + 1 by omega];rfl
 rw [zGe q ((tl s).drop 1) (k - 1) (by omega)]
 · omega
 · intro j hj'
   rw [g];exact hj _ _ (by omega) (by omega)
 · rcases he with he | ⟨hk, he⟩
   · left; omega
   · right
     refine ⟨by omega, ?_⟩;rw [g];simpa [show k - 1 + 1 = k by omega] using he
theorem zEa (s : ByteArray) (hs : s.size ≤ 9223372036854775807) (w : World) : Calls Tryz.prog 129 #[.string s, .func (.func 104) #[] #[], .func (.func 104) #[] #[]] w fun e w' => e = .returned (.int .i64 (digN (tl s) : Nat)) ∧ w = w' := by
 by_cases h0 : s.size = 0
 · have he : tl s = [] := List.length_eq_zero_iff.1 (by rw [zab]; exact h0)
   have hS : (s.toList == []) = true := by rw [zdn]; simpa using h0
   have hN : digN (tl s) = 0 := by rw [he]; rfl
   rw [hN];clear he hN;go_enter Tryz.func129, Tryz.ntmps129
   go_wp2
   go_ret;exact ⟨rfl, rfl⟩
 · have hS : (s.toList == []) = false := by rw [zdn]; simpa using h0
   have hpos : 0 < s.size := by omega
   have hd := zd6 s 0 hpos;rw [List.drop_zero] at hd;have c0 := zeg (s[0]'hpos);cases hp : digB (s[0]'hpos)
   · have hN : digN (tl s) = 0 := by rw [hd]; exact zdz _ _ _ _ hp
     rw [hN];rw [hp] at c0;clear hd hN hp;go_enter Tryz.func129, Tryz.ntmps129
     go_wp2_with (go_at_call 104; refine (c0 _).mono ?_; rintro e w' ⟨rfl, rfl⟩)
     go_ret;exact ⟨rfl, rfl⟩
   · rw [hp] at c0
     have HN := zJv (zl1 digB digB s hpos hp);clear hd hp;obtain ⟨R, hR⟩ : ∃ R, digN (tl s) = R := ⟨_, rfl⟩;have hR' : spanN digB digB (tl s) = R := hR;rw [hR'] at HN;rw [hR];clear hR hR';go_enter Tryz.func129, Tryz.ntmps129
     go_wp2_with (go_at_call 104; refine (c0 _).mono ?_; rintro e w' ⟨rfl, rfl⟩)
     go_loop [7] (fun i => ∃ k : Nat, 1 ≤ k ∧ k ≤ s.size ∧ i = .int .i64 k ∧ Hid (∀ j (hj : j < s.size), 1 ≤ j → j < k → digB (s[j]'hj) = true)) (fun i => s.size - (intOf i).toNat)
     case atStart => exact ⟨1, zJw _, hpos, rfl, zJv (fun j hj h1 h2 => by omega)⟩
     case round =>
      obtain ⟨k, hk1, hk2, rfl, HJ⟩ := hrel;by_cases hlt : k < s.size
      · have ck := zeg (s[k]'hlt)
        cases hp : digB (s[k]'hlt)
        · have hR := zJv (HN.out k hk1 hk2 HJ.out (.inr ⟨hlt, hp⟩))
          rw [hp] at ck;clear hp;go_wp2_with (go_at_call 104; refine (ck _).mono ?_; rintro e w' ⟨rfl, rfl⟩)
          go_ret;exact ⟨zgl hR.out.symm, rfl⟩
        · have HJ2 : Hid (∀ j (hj : j < s.size), 1 ≤ j → j < k + 1 → digB (s[j]'hj) = true) := zJv (fun j hj h1 h2 => by
           by_cases h : j < k
           · exact HJ.out j hj h1 h
           · obtain rfl : j = k := by omega
             exact hp)
          rw [hp] at ck;clear hp;go_wp2_with (go_at_call 104; refine (ck _).mono ?_; rintro e w' ⟨rfl, rfl⟩)
          go_round
          case rel => exact ⟨k + 1, by omega, by omega, by go_num, HJ2⟩
          case measure => simp [intOf]; omega
      · have hR := zJv (HN.out k hk1 hk2 HJ.out (.inl (by omega)))
        go_wp2
        go_ret;exact ⟨zgl hR.out.symm, rfl⟩
theorem zAs (s : ByteArray) (hs : s.size ≤ 9223372036854775807) (g : Nat) (w : World) (hg : w.cell? ⟨g, 0, none⟩ = some (.func (.func 131) #[] #[])) : Calls Tryz.prog 129 #[.string s, .func (.func 131) #[] #[], .func (.func 132) #[] #[.pointer (some ⟨g, 0, none⟩)]] w fun e w' => e = .returned (.int .i64 (nameN (tl s) : Nat)) ∧ w = w' := by
 by_cases h0 : s.size = 0
 · have he : tl s = [] := List.length_eq_zero_iff.1 (by rw [zab]; exact h0)
   have hS : (s.toList == []) = true := by rw [zdn]; simpa using h0
   have hN : nameN (tl s) = 0 := by rw [he]; rfl
   rw [hN];clear he hN;go_enter Tryz.func129, Tryz.ntmps129
   go_wp2
   go_ret;exact ⟨rfl, rfl⟩
 · have hS : (s.toList == []) = false := by rw [zdn]; simpa using h0
   have hpos : 0 < s.size := by omega
   have hd := zd6 s 0 hpos;rw [List.drop_zero] at hd;have c0 := ztn (s[0]'hpos);cases hp : lowB (s[0]'hpos)
   · have hN : nameN (tl s) = 0 := by rw [hd]; exact zdz _ _ _ _ hp
     rw [hN];rw [hp] at c0;clear hd hN hp;go_enter Tryz.func129, Tryz.ntmps129
     go_wp2_with (go_at_call 131; refine (c0 _).mono ?_; rintro e w' ⟨rfl, rfl⟩)
     go_ret;exact ⟨rfl, rfl⟩
   · rw [hp] at c0
     have HN := zJv (zl1 lowB zbj s hpos hp);clear hd hp;obtain ⟨R, hR⟩ : ∃ R, nameN (tl s) = R := ⟨_, rfl⟩;have hR' : spanN lowB zbj (tl s) = R := hR;rw [hR'] at HN;rw [hR];clear hR hR';go_enter Tryz.func129, Tryz.ntmps129
     go_wp2_with (go_at_call 131; refine (c0 _).mono ?_; rintro e w' ⟨rfl, rfl⟩)
     go_loop [7] (fun i => ∃ k : Nat, 1 ≤ k ∧ k ≤ s.size ∧ i = .int .i64 k ∧ Hid (∀ j (hj : j < s.size), 1 ≤ j → j < k → zbj (s[j]'hj) = true)) (fun i => s.size - (intOf i).toNat)
     case atStart => exact ⟨1, zJw _, hpos, rfl, zJv (fun j hj h1 h2 => by omega)⟩
     case round =>
      obtain ⟨k, hk1, hk2, rfl, HJ⟩ := hrel;by_cases hlt : k < s.size
      · have ck := zCq (s[k]'hlt) g w hg
        cases hp : zbj (s[k]'hlt)
        · have hR := zJv (HN.out k hk1 hk2 HJ.out (.inr ⟨hlt, hp⟩))
          rw [hp] at ck;clear hp;go_wp2_with (go_at_call 132; refine ck.mono ?_; rintro e w' ⟨rfl, rfl⟩)
          go_ret;exact ⟨zgl hR.out.symm, rfl⟩
        · have HJ2 : Hid (∀ j (hj : j < s.size), 1 ≤ j → j < k + 1 → zbj (s[j]'hj) = true) := zJv (fun j hj h1 h2 => by
           by_cases h : j < k
           · exact HJ.out j hj h1 h
           · obtain rfl : j = k := by omega
             exact hp)
          rw [hp] at ck;clear hp;go_wp2_with (go_at_call 132; refine ck.mono ?_; rintro e w' ⟨rfl, rfl⟩)
          go_round
          case rel => exact ⟨k + 1, by omega, by omega, by go_num, HJ2⟩
          case measure => simp [intOf]; omega
      · have hR := zJv (HN.out k hk1 hk2 HJ.out (.inl (by omega)))
        go_wp2
        go_ret;exact ⟨zgl hR.out.symm, rfl⟩
theorem zwg (s : ByteArray) (hs : s.size ≤ 9223372036854775807) (g : Nat) (w : World) (hg : w.cell? ⟨g, 0, none⟩ = some (.func (.func 133) #[] #[])) : Calls Tryz.prog 129 #[.string s, .func (.func 133) #[] #[], .func (.func 134) #[] #[.pointer (some ⟨g, 0, none⟩)]] w fun e w' => e = .returned (.int .i64 (zc4 (tl s) : Nat)) ∧ w = w' := by
 by_cases h0 : s.size = 0
 · have he : tl s = [] := List.length_eq_zero_iff.1 (by rw [zab]; exact h0)
   have hS : (s.toList == []) = true := by rw [zdn]; simpa using h0
   have hN : zc4 (tl s) = 0 := by rw [he]; rfl
   rw [hN];clear he hN;go_enter Tryz.func129, Tryz.ntmps129
   go_wp2
   go_ret;exact ⟨rfl, rfl⟩
 · have hS : (s.toList == []) = false := by rw [zdn]; simpa using h0
   have hpos : 0 < s.size := by omega
   have hd := zd6 s 0 hpos;rw [List.drop_zero] at hd;have c0 := zqn (s[0]'hpos);cases hp : highB (s[0]'hpos)
   · have hN : zc4 (tl s) = 0 := by rw [hd]; exact zdz _ _ _ _ hp
     rw [hN];rw [hp] at c0;clear hd hN hp;go_enter Tryz.func129, Tryz.ntmps129
     go_wp2_with (go_at_call 133; refine (c0 _).mono ?_; rintro e w' ⟨rfl, rfl⟩)
     go_ret;exact ⟨rfl, rfl⟩
   · rw [hp] at c0
     have HN := zJv (zl1 highB aliB s hpos hp);clear hd hp;obtain ⟨R, hR⟩ : ∃ R, zc4 (tl s) = R := ⟨_, rfl⟩;have hR' : spanN highB aliB (tl s) = R := hR;rw [hR'] at HN;rw [hR];clear hR hR';go_enter Tryz.func129, Tryz.ntmps129
     go_wp2_with (go_at_call 133; refine (c0 _).mono ?_; rintro e w' ⟨rfl, rfl⟩)
     go_loop [7] (fun i => ∃ k : Nat, 1 ≤ k ∧ k ≤ s.size ∧ i = .int .i64 k ∧ Hid (∀ j (hj : j < s.size), 1 ≤ j → j < k → aliB (s[j]'hj) = true)) (fun i => s.size - (intOf i).toNat)
     case atStart => exact ⟨1, zJw _, hpos, rfl, zJv (fun j hj h1 h2 => by omega)⟩
     case round =>
      obtain ⟨k, hk1, hk2, rfl, HJ⟩ := hrel;by_cases hlt : k < s.size
      · have ck := zG6 (s[k]'hlt) g w hg
        cases hp : aliB (s[k]'hlt)
        · have hR := zJv (HN.out k hk1 hk2 HJ.out (.inr ⟨hlt, hp⟩))
          rw [hp] at ck;clear hp;go_wp2_with (go_at_call 134; refine ck.mono ?_; rintro e w' ⟨rfl, rfl⟩)
          go_ret;exact ⟨zgl hR.out.symm, rfl⟩
        · have HJ2 : Hid (∀ j (hj : j < s.size), 1 ≤ j → j < k + 1 → aliB (s[j]'hj) = true) := zJv (fun j hj h1 h2 => by
           by_cases h : j < k
           · exact HJ.out j hj h1 h
           · obtain rfl : j = k := by omega
             exact hp)
          rw [hp] at ck;clear hp;go_wp2_with (go_at_call 134; refine ck.mono ?_; rintro e w' ⟨rfl, rfl⟩)
          go_round
          case rel => exact ⟨k + 1, by omega, by omega, by go_num, HJ2⟩
          case measure => simp [intOf]; omega
      · have hR := zJv (HN.out k hk1 hk2 HJ.out (.inl (by omega)))
        go_wp2
        go_ret;exact ⟨zgl hR.out.symm, rfl⟩
theorem zsa (s : ByteArray) (hs : s.size ≤ 9223372036854775807) (w : World) : Calls Tryz.prog 106 #[.string s] w fun e w' => e = .returned (.int .i64 (nameN (tl s) : Nat)) ∧ Below w.heap.size w w' := by
 have bS := Boxed.new w 41 (.func (.func 131) #[] #[]);have k := zAs s hs w.heap.size _ bS.cell;have hB : Below w.heap.size w (w.alloc (.cells #[.func (.func 131) #[] #[]] 41)) := (zJx _ w).alloc (zJw _) _;clear bS;go_enter Tryz.func106, Tryz.ntmps106
 go_wp2_with (go_at_call 129; refine k.mono ?_; rintro e w' ⟨rfl, rfl⟩)
 go_ret;exact ⟨rfl, hB⟩
theorem zy8 (s : ByteArray) (hs : s.size ≤ 9223372036854775807) (w : World) : Calls Tryz.prog 108 #[.string s] w fun e w' => e = .returned (.int .i64 (zc4 (tl s) : Nat)) ∧ Below w.heap.size w w' := by
 have bS := Boxed.new w 41 (.func (.func 133) #[] #[]);have k := zwg s hs w.heap.size _ bS.cell;have hB : Below w.heap.size w (w.alloc (.cells #[.func (.func 133) #[] #[]] 41)) := (zJx _ w).alloc (zJw _) _;clear bS;go_enter Tryz.func108, Tryz.ntmps108
 go_wp2_with (go_at_call 129; refine k.mono ?_; rintro e w' ⟨rfl, rfl⟩)
 go_ret;exact ⟨rfl, hB⟩
end Go.Proofs.YtidmeodmkcomlaaGreatDoor
