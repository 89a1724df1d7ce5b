/- A blank ahead of a text: each place is one further on. And the doors of parse. The chapter's example: what is read of it. The document's answer for tags and -/
import Derived.Test.YtidmeodmkcomlaaGreatDoorK15
import Derived.Test.YtidmeodmkcomlaaGreatDoorK28
import Derived.Test.YtidmeodmkcomlaaGreatDoorK30
import Derived.Lib.SlBytesConst
import Derived.Test.YtidmeodmkcomlaaGreatDoorK01
import Derived.Test.YtidmeodmkcomlaaGreatDoorK04
import Derived.Deep.QuietTactic
import Derived.BigQuiet
import Derived.LoopTactic
import Derived.Maps.OwnSet
import Derived.Maps.AppendAt
import Derived.OwnWalk
import Derived.Laws.EntriesVeiled
namespace Go.Proofs.YtidmeodmkcomlaaGreatDoor
open Go Go.Proofs Go.RowKit
theorem zvp (l : List UInt8) (hs : l.length ≤ 16000) (a : Option Addr) (len cap : Nat) (w : World) (hl : l.length = len) (hEnv : Env w) (hI : TextAt w.heap.size w (.slice a len cap) l) : Calls Tryz.prog 9 #[.slice a len cap] w (zfo w (textR l)) :=
 zxj (fun _ hT T => zgq hT T) l hs a len cap w hl hEnv hI
theorem bd_on : ∀ (n : Nat) (l : List UInt8) (k d : Nat), l.length ≤ n → bd l (k + d) = bd l k + d := by
 intro n
 induction n with
 | zero => intro l k d h; rw [zcw _ _ (by omega), zcw _ _ (by omega)]
 | succ n ih =>
  intro l k d h;by_cases h0 : 0 < l.length
  · by_cases hb : isBad l
    · rw [zfe _ _ hb, zfe _ _ hb]
    · have := zbl l h0
      rw [zd3 _ _ h0 hb, zd3 _ _ h0 hb, show k + d + (D l).2 = k + (D l).2 + d by omega];exact ih _ _ _ (by simp only [zKa]; omega)
  · rw [zcw _ _ (by omega), zcw _ _ (by omega)]
theorem zjy (c : UInt8) (l : List UInt8) (h : c.toNat < 128) : D (c :: l) = (c.toNat, 1) := by
 unfold D Go.Lib.decodeN;simp [h]
theorem zgy (c : UInt8) (l : List UInt8) (h : c.toNat < 128) (k : Nat) : bd (c :: l) k = bd l k + 1 := by
 have hD := zjy c l h;have hb : ¬ isBad (c :: l) := by unfold isBad; rw [hD]; simp; omega
 rw [zd3 _ _ (by simp) hb, hD];exact bd_on _ l k 1 (zJw _)
theorem zto : ∀ (n : Nat) (l : List UInt8) (k d : Nat), l.length ≤ n → lexR l (k + d) = (match lexR l k with | .ok ts => .ok (ts.map (shK d)) | .error p => .error (p + d)) := by
 intro n
 induction n with
 | zero =>
  intro l k d h;have : l = [] := List.eq_nil_of_length_eq_zero (by omega);subst this;rw [zaz _ _ (by simp), zaz _ _ (by simp)];simp [zax, shK]
 | succ n ih =>
  intro l k d h;by_cases h0 : l.drop (skipN l) = []
  · rw [zaz _ _ h0, zaz _ _ h0]
    simp [shK]; omega
  · cases ht : tok (l.drop (skipN l)) with
    | none =>
     rw [zcd _ _ h0 ht, zcd _ _ h0 ht];simp; omega
    | some x =>
     obtain ⟨t, m⟩ := x;have hm := zg2 ht;rw [zbw _ _ _ _ ht, zbw _ _ _ _ ht, show k + d + skipN l + m = k + skipN l + m + d by omega, ih _ _ d (by simp only [zKa] at hm ⊢; omega)]
     cases lexR (l.drop (skipN l + m)) (k + skipN l + m) with
     | ok ts => simp [prep, shK]; omega
     | error p => rfl
def TreeD.sh (d : Nat) (t : TreeD) : TreeD := ⟨t.nodes.map (shT d), t.types.map (shY d), t.aliases.map (shA d)⟩
theorem zbr (c : UInt8) (r : List UInt8) (k : Nat) (t : Nat × List UInt8) (n : Nat) (h : zc3 c = false) (hn : noteB (c :: r) = false) (ht : tok (c :: r) = some (t, n)) :
 lexR (c :: r) k = prep [(t.1, t.2, k)] (lexR ((c :: r).drop n) (k + n)) := by
 have hz := zcx c r h hn;have := zbw (c :: r) k t n (by rw [hz]; exact ht);rw [hz] at this;simpa using this
theorem zg3 : ∀ (l : List UInt8), (∀ c ∈ l, c.toNat < 128) → bd l 0 = l.length
 | [], _ => zcw [] 0 rfl
 | c :: r, h => by rw [zgy c r (h c (by simp)), zg3 r (fun x hx => h x (by simp [hx]))]; rfl
def exL : List UInt8 := [102, 32, 120, 46, 97]
def exT : List Tk := [(1, [102], 0), (1, [120], 2), (8, [46], 3), (1, [97], 4), (0, [], 5)]
theorem exLex : lexA exL = .ok exT := by
 have h : lexR exL 0 = .ok exT := by
  unfold exL;rw [zbr 102 _ 0 (1, [102]) 1 (by decide) (by decide) (by decide)];dsimp only [List.drop];rw [zbf 32 _ _ (by decide), zbr 120 _ _ (1, [120]) 1 (by decide) (by decide) (by decide)];dsimp only [List.drop];rw [zbr 46 _ _ (8, [46]) 1 (by decide) (by decide) (by decide)];dsimp only [List.drop];rw [zbr 97 _ _ (1, [97]) 1 (by decide) (by decide) (by decide)];dsimp only [List.drop];rw [zaz [] _ (by rw [zax]; rfl), zax];rfl
 unfold lexA;rw [if_neg (by decide), zg3 exL (by decide), if_neg (by decide), h]
def exTree : List TermD := [⟨0, 0, bs [102], 0, 0, [], [], []⟩, ⟨0, 2, bs [120], 0, 0, [], [], []⟩, ⟨13, 3, bs [97], 0, 0, [], [1], []⟩, ⟨6, 2, bs [], 0, 0, [], [0, 2], []⟩]
theorem zna : textM exT 257 St.zero = .ok () ⟨4, 0, exTree, [], [], []⟩ := by rfl
theorem zI4 : textR exL = .ok ⟨exTree, [], []⟩ := by
 unfold textR readM;rw [exLex];dsimp only;rw [zna];rfl
theorem zr5 (n₀ : Nat) (w : World) (cs : Array Value) (fz : Nat × Nat) (l : List UInt8) (hc : cs = (zai l).toArray) (h : w.heap.size < n₀) : TextAt n₀ (w.alloc (.cells cs 5 fz)) (.slice (some ⟨w.heap.size, 0, none⟩) l.length l.length) l := by
 subst hc;refine .inr ⟨w.heap.size, 0, l.length, rfl, h, zJw _, ?_⟩;intro j hj;have hn := World.alloc_heap_new w (.cells (zai l).toArray 5 fz);simp only [World.cell?, hn];simp [zai, zK1 hj]
set_option maxHeartbeats 2000000
def nmB (l : List UInt8) : Bool := decide (l ≠ []) && decide (nameN l = l.length)
theorem zo6 (l : List UInt8) : zac l = (nmB l && !isW l) := rfl
def tagAt (i : Nat) (c : UInt8) : Bool := lowB c || (decide (0 < i) && digB c)
theorem zj0 {p : UInt8 → Bool} : ∀ (l : List UInt8), (l.takeWhile p).length = l.length ↔ ∀ x ∈ l, p x = true
 | [] => by simp
 | c :: r => by
  rw [List.takeWhile_cons];split
  · rename_i h
    simp only [zK2, Nat.add_right_cancel_iff, zKf, forall_eq_or_imp, h, true_and];exact zj0 r
  · rename_i h
    simp only [zKc, zK2, zKf, forall_eq_or_imp, h, false_and, iff_false, Bool.false_eq_true];omega
theorem zFe (l : List UInt8) : nmB l = true ↔ l ≠ [] ∧ ∀ j (h : j < l.length), tagAt j l[j] = true := by
 cases l with
 | nil => simp [nmB]
 | cons c r =>
  have hN : nameN (c :: r) = (c :: r).length ↔ lowB c = true ∧ ∀ x ∈ r, zbj x = true := by
   show (if lowB c then (r.takeWhile zbj).length + 1 else 0) = r.length + 1 ↔ _
   split
   · rename_i h
     rw [Nat.add_right_cancel_iff, zj0];simp [h]
   · rename_i h
     simp [h]
  simp only [nmB, ne_eq, reduceCtorEq, not_false_eq_true, decide_true, Bool.true_and, zKq, true_and];rw [hN];constructor
  · rintro ⟨h1, h2⟩ j hj
    cases j with
    | zero => simp [tagAt, h1]
    | succ j =>
     have := h2 (r[j]'(by simpa using hj)) (zKe _);simp only [zbj] at this;simpa [tagAt] using this
  · intro h
    refine ⟨by have := h 0 (by simp); simpa [tagAt] using this, fun x hx => ?_⟩;obtain ⟨j, hj, rfl⟩ := zKo hx;have := h (j + 1) (by simpa using hj);simpa [tagAt, zbj] using this
theorem zid (s : ByteArray) (hs : s.size ≤ 1000) (w : World) : Calls Tryz.prog 62 #[.string s] w fun e w' => e = .returned (.bool (nmB (tl s))) ∧ w = w' := by
 have hlen := zab s;have hE := zdn s;have hI := zFe (tl s)
 have hE2 : (s.toList != []) = decide (0 < s.size) := by
  by_cases hz : s.size = 0
  · have hE1 : (s.toList == []) = true := by rw [hE]; simpa using hz
    simp [bne, hE1, hz]
  · have hE1 : (s.toList == []) = false := by rw [hE]; simpa using hz
    simp [bne, hE1]
    omega
 obtain ⟨R, hR⟩ : ∃ R, nmB (tl s) = R := ⟨_, rfl⟩;rw [hR] at hI ⊢;clear hR hE;have HI := zJv hI;have HL := zJv hlen;have HE2 := zJv hE2;clear hI hlen hE2;go_enter Tryz.func62, Tryz.ntmps62
 go_wp2
 go_loop [3] (fun i => ∃ k : Nat, k ≤ s.size ∧ i = .int .i64 k ∧ Hid (∀ j (h : j < s.size), j < k → tagAt j s[j] = true)) (fun i => s.size - (intOf i).toNat)
 case atStart => exact ⟨0, zK8 _, rfl, zJv fun j _ h => absurd h (by omega)⟩
 case round =>
  obtain ⟨k, hk, rfl, HA⟩ := hrel;by_cases hlt : k < s.size
  · have hc := s[k].toNat_lt
    have hstep : tagAt k s[k] = true → ∀ j (h : j < s.size), j < k + 1 → tagAt j s[j] = true := fun hA j hj hjk => by
     by_cases e : j = k
     · subst e; exact hA
     · exact HA.out j hj (by omega)
    have hbad : tagAt k s[k] = false → R = false := fun hA => by
     cases R
     · rfl
     · have := (HI.out.1 rfl).2 k (by rw [HL.out]; exact hlt)
       have h2 : (tl s)[k]'(by rw [HL.out]; exact hlt) = s[k] := rfl;rw [h2, hA] at this;cases this
    obtain ⟨c, hcs⟩ : ∃ c, s[k] = c := ⟨_, rfl⟩;rw [hcs] at hc hstep hbad;have HC := zJv hcs;have HS := zJv hstep;have HB := zJv hbad;clear hstep hbad;by_cases h1 : 97 ≤ c.toNat ∧ c.toNat ≤ 122
    · obtain ⟨h1, h2⟩ := h1
      have h3 : Hid (tagAt k c = true) := zJv (by simp [tagAt, lowB]; omega);go_wp2
      all_goals
       go_round
       case rel => exact ⟨k + 1, by omega, by go_num, zJv (HS.out h3.out)⟩
       case measure => simp [intOf]; omega
    · by_cases h2 : c.toNat = 95
      · have h3 : Hid (tagAt k c = true) := zJv (by simp [tagAt, lowB]; omega)
        have h4 : ((c.toNat : Int) == 95) = true := by simp; omega
        have h5 : decide ((97 : Int) ≤ c.toNat) = false := by simp; omega
        clear h1;have h6 : c.toNat ≤ 95 := by omega
        clear h2;go_wp2
        all_goals
         go_round
         case rel => exact ⟨k + 1, by omega, by go_num, zJv (HS.out h3.out)⟩
         case measure => simp [intOf]; omega
      · have h4 : ((c.toNat : Int) == 95) = false := by simp; omega
        by_cases h7 : k = 0
        · subst h7
          have h3 : Hid (tagAt 0 c = false) := zJv (by simp [tagAt, lowB]; omega);by_cases h8 : 97 ≤ c.toNat
          · have h9 : decide ((c.toNat : Int) ≤ 122) = false := by simp; omega
            clear h1 h2;go_wp2
            all_goals
             go_ret;exact ⟨za7 (HB.out h3.out).symm, rfl⟩
          · clear h1 h2
            go_wp2
            all_goals
             go_ret;exact ⟨za7 (HB.out h3.out).symm, rfl⟩
        · have h10 : ((k : Int) == 0) = false := by simp; omega
          have h11 : 0 < k := by omega
          clear h7;by_cases h12 : 48 ≤ c.toNat ∧ c.toNat ≤ 57
          · obtain ⟨h12, h13⟩ := h12
            have h3 : Hid (tagAt k c = true) := zJv (by simp [tagAt, lowB, digB]; omega);clear h1 h2;go_wp2
            all_goals
             go_round
             case rel => exact ⟨k + 1, by omega, by go_num, zJv (HS.out h3.out)⟩
             case measure => simp [intOf]; omega
          · have h3 : Hid (tagAt k c = false) := zJv (by simp [tagAt, lowB, digB]; omega)
            by_cases h8 : 97 ≤ c.toNat
            · have h9 : decide ((c.toNat : Int) ≤ 122) = false := by simp; omega
              clear h1 h2 h12;go_wp2
              all_goals
               go_ret;exact ⟨za7 (HB.out h3.out).symm, rfl⟩
            · by_cases h13 : c.toNat < 48
              · clear h1 h2 h12
                go_wp2
                all_goals
                 go_ret;exact ⟨za7 (HB.out h3.out).symm, rfl⟩
              · have h14 : 57 < c.toNat := by omega
                clear h1 h2 h12;go_wp2
                all_goals
                 go_ret;exact ⟨za7 (HB.out h3.out).symm, rfl⟩
  · obtain rfl : k = s.size := by omega
    have hfin : decide (0 < s.size) = R := by
     cases R
     · rw [zKs]
       intro h0;have := HI.out.2 ⟨fun he => by have := HL.out; rw [he] at this; simp at this; omega, fun j hj => by rw [HL.out] at hj; exact HA.out j hj hj⟩;cases this
     · rw [zKq]
       have := (HI.out.1 rfl).1;rcases Nat.eq_zero_or_pos s.size with h0 | h0
       · exact absurd (List.length_eq_zero_iff.1 (HL.out.trans h0)) this
       · exact h0
    have HF : Hid ((s.toList != []) = R) := zJv (HE2.out.trans hfin);clear hfin;go_wp2
    go_ret;exact ⟨za7 (by have := HF.out; simpa [bne] using this), rfl⟩
theorem zej (s : ByteArray) (hs : s.size ≤ 1000) (w : World) : Calls Tryz.prog 59 #[.string s] w fun e w' => e = .returned (.bool (zac (tl s))) ∧ w = w' := by
 have c1 := zid s hs;have c2 := zxz s (by omega);rw [zo6];cases hn : nmB (tl s) <;> cases hw : isW (tl s)
 all_goals
  rw [hn] at c1;rw [hw] at c2;clear hn hw;go_enter Tryz.func59, Tryz.ntmps59
  go_wp2_with (first | (go_at_call 62; refine (c1 _).mono ?_; rintro e w' ⟨rfl, rfl⟩) | (go_at_call 87; refine (c2 _).mono ?_; rintro e w' ⟨rfl, rfl⟩))
  go_ret;exact ⟨rfl, rfl⟩
theorem rd_at {w : World} {A : Option Addr} {xs : List Int} {k : Nat} (h : RdAt w A (xs.map iv)) (hk : k < xs.length) : ∃ b off, A = some ⟨b, off, none⟩ ∧ w.cell? ⟨b, off + k, none⟩ = some (.int .i64 xs[k]) := by
 rcases h with h | ⟨b, off, e, h⟩
 · have : xs = [] := by simpa using h
   subst this;simp at hk
 · exact ⟨b, off, e, h k _ (by simp [hk])⟩
theorem zft (n₀ : Nat) (w : World) (d : Nat) : Below n₀ w (w.drewN d) := ⟨rfl, rfl, rfl, zJw _, fun _ _ => rfl⟩
theorem zoo (w : World) (a b : Nat) : (w.drewN a).drewN b = w.drewN (a + b) := by simp [World.drewN, Nat.add_assoc]
def takeF : List Int → List Int → Int → Bool × List Int
 | us, [], _ => (true, us)
 | us, k :: ks, e => if k < 0 ∨ e ≤ k then (false, us) else
  if 0 < us.getD k.toNat 0 then (false, us.set k.toNat (us.getD k.toNat 0 + 1)) else takeF (us.set k.toNat (us.getD k.toNat 0 + 1)) ks e
def TakePost (g : Nat) (us ks : List Int) (e : Int) (w : World) (en : Ending) (w' : World) : Prop :=
 en = .returned (.bool (takeF us ks e).1) ∧ Blk w' g 3 (ivs (takeF us ks e).2) ∧ w.grownBy w' (some g)
theorem TakePost.of {g : Nat} {us ks : List Int} {e : Int} {w w' : World} {b : Bool} {us' : List Int} (h : takeF us ks e = (b, us')) (hB : Blk w' g 3 (ivs us')) (hg : w.grownBy w' (some g)) :
 TakePost g us ks e w (.returned (.bool b)) w' := by
 unfold TakePost;rw [h];exact ⟨rfl, hB, hg⟩
def Bits01 (us : List Int) : Prop := ∀ u ∈ us, 0 ≤ u ∧ u ≤ 1
theorem Bits01.set {us : List Int} (h : Bits01 us) (j : Nat) {u : Int} (hu : 0 ≤ u ∧ u ≤ 1) : Bits01 (us.set j u) := fun x hx => by
 rcases List.mem_or_eq_of_mem_set hx with h1 | rfl
 · exact h _ h1
 · exact hu

end Go.Proofs.YtidmeodmkcomlaaGreatDoor
namespace Go.Proofs.YtidmeodmkcomlaaGreatDoor
open Go Go.Proofs Go.RowKit Go.Maps Go.WideMaps
def tagB (l : List UInt8) : Bool := zac l || isW l
def zbo : List UInt8 → Bool
 | [] => false
 | c :: r => highB c && r.all aliB
def aliAt (i : Nat) (c : UInt8) : Bool := highB c || (decide (0 < i) && (zb9 c || digB c))
theorem zw5 (l : List UInt8) : zbo l = true ↔ l ≠ [] ∧ ∀ j (h : j < l.length), aliAt j l[j] = true := by
 cases l with
 | nil => simp [zbo]
 | cons c r =>
  simp only [zbo, zK6, List.all_eq_true, ne_eq, reduceCtorEq, not_false_eq_true, true_and];constructor
  · rintro ⟨h1, h2⟩ j hj
    cases j with
    | zero => simp [aliAt, h1]
    | succ j =>
     have := h2 (r[j]'(by simpa using hj)) (zKe _);simp only [aliB, Bool.or_assoc] at this;simpa [aliAt] using this
  · intro h
    refine ⟨by have := h 0 (by simp); simpa [aliAt] using this, fun x hx => ?_⟩;obtain ⟨j, hj, rfl⟩ := zKo hx;have := h (j + 1) (by simpa using hj);simpa [aliAt, aliB, Bool.or_assoc] using this
def opsL : List (List UInt8) := [[43], [45], [42], [47], [43, 46], [45, 46], [42, 46], [47, 46], [60], [60, 46], [61, 61], [94]]
def opB (l : List UInt8) : Bool := decide (l ∈ opsL)
def onceB (p : List UInt8 → Bool) (ss : List ByteArray) : Bool := decide ((∀ s ∈ ss, p (tl s) = true) ∧ ss.Nodup)
end Go.Proofs.YtidmeodmkcomlaaGreatDoor
