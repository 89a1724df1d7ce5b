/- The document's answer for tags and names, at every string of at most 1000 bytes. Are two rows of numbers the same? The law's own look. Counting parts: take, -/
import Derived.Test.YtidmeodmkcomlaaGreatDoorK05
import Derived.Deep.QuietTactic
import Derived.BigQuiet
import Derived.LoopTactic
import Derived.Maps.OwnSet
set_option linter.unusedSimpArgs false
set_option linter.unusedVariables false
namespace Go.Proofs.YtidmeodmkcomlaaGreatDoor
open Go Go.Proofs Go.RowKit
set_option maxHeartbeats 2000000
def nmB (l : List UInt8) : Bool := decide (l ≠ []) && decide (nameN l = l.length)
theorem zo6 (l : List UInt8) : zac l = (nmB l && !isW l) := rfl
def tagAt (i : Nat) (c : UInt8) : Bool := lowB c || (decide (0 < i) && digB c)
theorem zj0 {p : UInt8 → Bool} : ∀ (l : List UInt8), (l.takeWhile p).length = l.length ↔ ∀ x ∈ l, p x = true
 | [] => by simp
 | c :: r => by
  rw [List.takeWhile_cons];split
  · rename_i h
    simp only [zK2, Nat.add_right_cancel_iff, zKf, forall_eq_or_imp, h, true_and];exact zj0 r
  · rename_i h
    simp only [zKc, zK2, zKf, forall_eq_or_imp, h, false_and, iff_false, Bool.false_eq_true];omega
theorem zFe (l : List UInt8) : nmB l = true ↔ l ≠ [] ∧ ∀ j (h : j < l.length), tagAt j l[j] = true := by
 cases l with
 | nil => simp [nmB]
 | cons c r =>
  have hN : nameN (c :: r) = (c :: r).length ↔ lowB c = true ∧ ∀ x ∈ r, zbj x = true := by
   show (if lowB c then (r.takeWhile zbj).length + 1 else 0) = r.length + 1 ↔ _
   split
   · rename_i h
     rw [Nat.add_right_cancel_iff, zj0];simp [h]
   · rename_i h
     simp [h]
  simp only [nmB, ne_eq, reduceCtorEq, not_false_eq_true, decide_true, Bool.true_and, zKq, true_and];rw [hN];constructor
  · rintro ⟨h1, h2⟩ j hj
    cases j with
    | zero => simp [tagAt, h1]
    | succ j =>
     have := h2 (r[j]'(by simpa using hj)) (zKe _);simp only [zbj] at this;simpa [tagAt] using this
  · intro h
    refine ⟨by have := h 0 (by simp); simpa [tagAt] using this, fun x hx => ?_⟩;obtain ⟨j, hj, rfl⟩ := zKo hx;have := h (j + 1) (by simpa using hj);simpa [tagAt, zbj] using this
theorem zid (s : ByteArray) (hs : s.size ≤ 1000) (w : World) : Calls Tryz.prog 62 #[.string s] w fun e w' => e = .returned (.bool (nmB (tl s))) ∧ w = w' := by
 have hlen := zab s;have hE := zdn s;have hI := zFe (tl s)
 have hE2 : (s.toList != []) = decide (0 < s.size) := by
  by_cases hz : s.size = 0
  · have hE1 : (s.toList == []) = true := by rw [hE]; simpa using hz
    simp [bne, hE1, hz]
  · have hE1 : (s.toList == []) = false := by rw [hE]; simpa using hz
    simp [bne, hE1]
    omega
 obtain ⟨R, hR⟩ : ∃ R, nmB (tl s) = R := ⟨_, rfl⟩;rw [hR] at hI ⊢;clear hR hE;have HI := zJv hI;have HL := zJv hlen;have HE2 := zJv hE2;clear hI hlen hE2;go_enter Tryz.func62, Tryz.ntmps62
 go_wp2
 go_loop [3] (fun i => ∃ k : Nat, k ≤ s.size ∧ i = .int .i64 k ∧ Hid (∀ j (h : j < s.size), j < k → tagAt j s[j] = true)) (fun i => s.size - (intOf i).toNat)
 case atStart => exact ⟨0, zK8 _, rfl, zJv fun j _ h => absurd h (by omega)⟩
 case round =>
  obtain ⟨k, hk, rfl, HA⟩ := hrel;by_cases hlt : k < s.size
  · have hc := s[k].toNat_lt
    have hstep : tagAt k s[k] = true → ∀ j (h : j < s.size), j < k + 1 → tagAt j s[j] = true := fun hA j hj hjk => by
     by_cases e : j = k
     · subst e; exact hA
     · exact HA.out j hj (by omega)
    have hbad : tagAt k s[k] = false → R = false := fun hA => by
     cases R
     · rfl
     · have := (HI.out.1 rfl).2 k (by rw [HL.out]; exact hlt)
       have h2 : (tl s)[k]'(by rw [HL.out]; exact hlt) = s[k] := rfl;rw [h2, hA] at this;cases this
    obtain ⟨c, hcs⟩ : ∃ c, s[k] = c := ⟨_, rfl⟩;rw [hcs] at hc hstep hbad;have HC := zJv hcs;have HS := zJv hstep;have HB := zJv hbad;clear hstep hbad;by_cases h1 : 97 ≤ c.toNat ∧ c.toNat ≤ 122
    · obtain ⟨h1, h2⟩ := h1
      have h3 : Hid (tagAt k c = true) := zJv (by simp [tagAt, lowB]; omega);go_wp2
      all_goals
       go_round
       case rel => exact ⟨k + 1, by omega, by go_num, zJv (HS.out h3.out)⟩
       case measure => simp [intOf]; omega
    · by_cases h2 : c.toNat = 95
      · have h3 : Hid (tagAt k c = true) := zJv (by simp [tagAt, lowB]; omega)
        have h4 : ((c.toNat : Int) == 95) = true := by simp; omega
        have h5 : decide ((97 : Int) ≤ c.toNat) = false := by simp; omega
        clear h1;have h6 : c.toNat ≤ 95 := by omega
        clear h2;go_wp2
        all_goals
         go_round
         case rel => exact ⟨k + 1, by omega, by go_num, zJv (HS.out h3.out)⟩
         case measure => simp [intOf]; omega
      · have h4 : ((c.toNat : Int) == 95) = false := by simp; omega
        by_cases h7 : k = 0
        · subst h7
          have h3 : Hid (tagAt 0 c = false) := zJv (by simp [tagAt, lowB]; omega);by_cases h8 : 97 ≤ c.toNat
          · have h9 : decide ((c.toNat : Int) ≤ 122) = false := by simp; omega
            clear h1 h2;go_wp2
            all_goals
             go_ret;exact ⟨za7 (HB.out h3.out).symm, rfl⟩
          · clear h1 h2
            go_wp2
            all_goals
             go_ret;exact ⟨za7 (HB.out h3.out).symm, rfl⟩
        · have h10 : ((k : Int) == 0) = false := by simp; omega
          have h11 : 0 < k := by omega
          clear h7;by_cases h12 : 48 ≤ c.toNat ∧ c.toNat ≤ 57
          · obtain ⟨h12, h13⟩ := h12
            have h3 : Hid (tagAt k c = true) := zJv (by simp [tagAt, lowB, digB]; omega);clear h1 h2;go_wp2
            all_goals
             go_round
             case rel => exact ⟨k + 1, by omega, by go_num, zJv (HS.out h3.out)⟩
             case measure => simp [intOf]; omega
          · have h3 : Hid (tagAt k c = false) := zJv (by simp [tagAt, lowB, digB]; omega)
            by_cases h8 : 97 ≤ c.toNat
            · have h9 : decide ((c.toNat : Int) ≤ 122) = false := by simp; omega
              clear h1 h2 h12;go_wp2
              all_goals
               go_ret;exact ⟨za7 (HB.out h3.out).symm, rfl⟩
            · by_cases h13 : c.toNat < 48
              · clear h1 h2 h12
                go_wp2
                all_goals
                 go_ret;exact ⟨za7 (HB.out h3.out).symm, rfl⟩
              · have h14 : 57 < c.toNat := by omega
                clear h1 h2 h12;go_wp2
                all_goals
                 go_ret;exact ⟨za7 (HB.out h3.out).symm, rfl⟩
  · obtain rfl : k = s.size := by omega
    have hfin : decide (0 < s.size) = R := by
     cases R
     · rw [zKs]
       intro h0;have := HI.out.2 ⟨fun he => by have := HL.out; rw [he] at this; simp at this; omega, fun j hj => by rw [HL.out] at hj; exact HA.out j hj hj⟩;cases this
     · rw [zKq]
       have := (HI.out.1 rfl).1;rcases Nat.eq_zero_or_pos s.size with h0 | h0
       · exact absurd (List.length_eq_zero_iff.1 (HL.out.trans h0)) this
       · exact h0
    have HF : Hid ((s.toList != []) = R) := zJv (HE2.out.trans hfin);clear hfin;go_wp2
    go_ret;exact ⟨za7 (by have := HF.out; simpa [bne] using this), rfl⟩
theorem zej (s : ByteArray) (hs : s.size ≤ 1000) (w : World) : Calls Tryz.prog 59 #[.string s] w fun e w' => e = .returned (.bool (zac (tl s))) ∧ w = w' := by
 have c1 := zid s hs;have c2 := zxz s (by omega);rw [zo6];cases hn : nmB (tl s) <;> cases hw : isW (tl s)
 all_goals
  rw [hn] at c1;rw [hw] at c2;clear hn hw;go_enter Tryz.func59, Tryz.ntmps59
  go_wp2_with (first | (go_at_call 62; refine (c1 _).mono ?_; rintro e w' ⟨rfl, rfl⟩) | (go_at_call 87; refine (c2 _).mono ?_; rintro e w' ⟨rfl, rfl⟩))
  go_ret;exact ⟨rfl, rfl⟩
theorem rd_at {w : World} {A : Option Addr} {xs : List Int} {k : Nat} (h : RdAt w A (xs.map iv)) (hk : k < xs.length) : ∃ b off, A = some ⟨b, off, none⟩ ∧ w.cell? ⟨b, off + k, none⟩ = some (.int .i64 xs[k]) := by
 rcases h with h | ⟨b, off, e, h⟩
 · have : xs = [] := by simpa using h
   subst this;simp at hk
 · exact ⟨b, off, e, h k _ (by simp [hk])⟩
theorem zft (n₀ : Nat) (w : World) (d : Nat) : Below n₀ w (w.drewN d) := ⟨rfl, rfl, rfl, zJw _, fun _ _ => rfl⟩
theorem zoo (w : World) (a b : Nat) : (w.drewN a).drewN b = w.drewN (a + b) := by simp [World.drewN, Nat.add_assoc]
def takeF : List Int → List Int → Int → Bool × List Int
 | us, [], _ => (true, us)
 | us, k :: ks, e => if k < 0 ∨ e ≤ k then (false, us) else
  if 0 < us.getD k.toNat 0 then (false, us.set k.toNat (us.getD k.toNat 0 + 1)) else takeF (us.set k.toNat (us.getD k.toNat 0 + 1)) ks e
def TakePost (g : Nat) (us ks : List Int) (e : Int) (w : World) (en : Ending) (w' : World) : Prop :=
 en = .returned (.bool (takeF us ks e).1) ∧ Blk w' g 3 (ivs (takeF us ks e).2) ∧ w.grownBy w' (some g)
theorem TakePost.of {g : Nat} {us ks : List Int} {e : Int} {w w' : World} {b : Bool} {us' : List Int} (h : takeF us ks e = (b, us')) (hB : Blk w' g 3 (ivs us')) (hg : w.grownBy w' (some g)) :
 TakePost g us ks e w (.returned (.bool b)) w' := by
 unfold TakePost;rw [h];exact ⟨rfl, hB, hg⟩
def Bits01 (us : List Int) : Prop := ∀ u ∈ us, 0 ≤ u ∧ u ≤ 1
theorem Bits01.set {us : List Int} (h : Bits01 us) (j : Nat) {u : Int} (hu : 0 ≤ u ∧ u ≤ 1) : Bits01 (us.set j u) := fun x hx => by
 rcases List.mem_or_eq_of_mem_set hx with h1 | rfl
 · exact h _ h1
 · exact hu

end Go.Proofs.YtidmeodmkcomlaaGreatDoor
namespace Go.Proofs.YtidmeodmkcomlaaGreatDoor
open Go Go.Proofs Go.RowKit Go.Maps Go.WideMaps
def tagB (l : List UInt8) : Bool := zac l || isW l
def zbo : List UInt8 → Bool
 | [] => false
 | c :: r => highB c && r.all aliB
def aliAt (i : Nat) (c : UInt8) : Bool := highB c || (decide (0 < i) && (zb9 c || digB c))
theorem zw5 (l : List UInt8) : zbo l = true ↔ l ≠ [] ∧ ∀ j (h : j < l.length), aliAt j l[j] = true := by
 cases l with
 | nil => simp [zbo]
 | cons c r =>
  simp only [zbo, zK6, List.all_eq_true, ne_eq, reduceCtorEq, not_false_eq_true, true_and];constructor
  · rintro ⟨h1, h2⟩ j hj
    cases j with
    | zero => simp [aliAt, h1]
    | succ j =>
     have := h2 (r[j]'(by simpa using hj)) (zKe _);simp only [aliB, Bool.or_assoc] at this;simpa [aliAt] using this
  · intro h
    refine ⟨by have := h 0 (by simp); simpa [aliAt] using this, fun x hx => ?_⟩;obtain ⟨j, hj, rfl⟩ := zKo hx;have := h (j + 1) (by simpa using hj);simpa [aliAt, aliB, Bool.or_assoc] using this
def opsL : List (List UInt8) := [[43], [45], [42], [47], [43, 46], [45, 46], [42, 46], [47, 46], [60], [60, 46], [61, 61], [94]]
def opB (l : List UInt8) : Bool := decide (l ∈ opsL)
def onceB (p : List UInt8 → Bool) (ss : List ByteArray) : Bool := decide ((∀ s ∈ ss, p (tl s) = true) ∧ ss.Nodup)
end Go.Proofs.YtidmeodmkcomlaaGreatDoor
