/- The text of a token is as its kind asks: strings, names, all of a text's tokens. What is parsed is whole. -/
import Derived.Test.YtidmeodmkcomlaaGreatDoorK46
set_option linter.unusedSimpArgs false
set_option linter.unusedVariables false
namespace Go.Proofs.YtidmeodmkcomlaaGreatDoor
open Go Go.Proofs Go.RowKit
theorem zGo {l t : List UInt8} (hb : ¬ isBad l) (h0 : 0 < l.length) (ht : Val t) : Val (l.take (D l).2 ++ t) := by
 have hD := zbl l h0;have e := zI1 hb h0;have hb2 : ¬ isBad (l.take (D l).2) := by unfold isBad; rw [e]; exact hb
 have hl : (l.take (D l).2).length = (D l).2 := by rw [zKi]; omega
 have e2 := zkw (l.take (D l).2) t (by omega) hb2;refine zIv (l := l.take (D l).2 ++ t) (by unfold isBad; rw [e2, e]; exact hb) (by rw [zK5]; omega) ?_;rw [e2, e, List.drop_append_of_le_length (by omega), List.drop_eq_nil_of_le (by omega)];exact ht
theorem zp0 : ∀ (a r : List UInt8), (∀ c ∈ a, 128 ≤ c.toNat) → strV (a ++ r) = (strV r).map fun x => (a ++ x.1, x.2 + a.length)
 | [], r, _ => by cases h : strV r <;> simp [h]
 | c :: a, r, h => by
  have hc := h c (by simp);rw [zKj, zbd, if_neg (by omega), if_neg (by omega), if_neg (by omega), zp0 a r (fun x hx => h x (by simp [hx]))];cases strV r <;> simp
  omega
theorem zxc : ∀ (n : Nat) (l x : List UInt8) (m : Nat), l.length ≤ n → Val l → strV l = some (x, m) → Val x ∧ Val (l.drop m) ∧ ∀ c ∈ x, 32 ≤ c.toNat ∨ c.toNat = 10 := by
 intro n
 induction n with
 | zero =>
  intro l x m h _ hs;obtain rfl : l = [] := List.length_eq_zero_iff.1 (by omega);rw [zck] at hs; cases hs
 | succ n ih =>
  intro l x m h hv hs
  cases l with
  | nil => rw [zck] at hs; cases hs
  | cons c r =>
   by_cases hc : c.toNat < 128
   · have hvr := (zcq hc).1 hv
     rw [zbd] at hs;split at hs
     · simp only [zKt, zKu] at hs
       obtain ⟨rfl, rfl⟩ := hs;exact ⟨Val.nil, hvr, fun c hc => (by cases hc)⟩
     split at hs
     · cases hs
     split at hs
     · cases r with
       | nil => cases hs
       | cons d r' =>
        dsimp only at hs
        cases he : escB d with
        | none => rw [he] at hs; cases hs
        | some e =>
         rw [he] at hs;simp only [zKg, zKu] at hs;obtain ⟨⟨y, k⟩, hy, rfl, rfl⟩ := hs
         have hd : d.toNat < 128 ∧ e.toNat < 128 ∧ (32 ≤ e.toNat ∨ e.toNat = 10) := by
          unfold escB at he;split at he
          · injection he with he; subst he; exact ⟨by omega, by decide, by decide⟩
          split at he
          · injection he with he; subst he; exact ⟨by omega, by decide, by decide⟩
          split at he
          · injection he with he; subst he; exact ⟨by omega, by decide, by decide⟩
          · cases he
         obtain ⟨h1, h2, h3⟩ := ih r' y k (by simp only [zK2] at h; omega) ((zcq hd.1).1 hvr) hy;refine ⟨(zcq hd.2.1).2 h1, h2, fun z hz => ?_⟩;rcases List.mem_cons.1 hz with rfl | hz
         · exact hd.2.2
         · exact h3 z hz
     · rename_i h1 h2 h3
       simp only [zKg, zKu] at hs;obtain ⟨⟨y, k⟩, hy, rfl, rfl⟩ := hs;obtain ⟨g1, g2, g3⟩ := ih r y k (by simp only [zK2] at h; omega) hvr hy;refine ⟨(zcq hc).2 g1, g2, fun z hz => ?_⟩;rcases List.mem_cons.1 hz with rfl | hz
       · exact .inl (by omega)
       · exact g3 z hz
   · have h0 : 0 < (c :: r).length := by simp
     obtain ⟨hb, hv2⟩ := zl3 hv h0;have hD := zbl (c :: r) h0;rcases zis hb with ⟨_, h2, _⟩ | ⟨_, h2⟩
     · exact absurd h2 hc
     obtain ⟨w, hw⟩ : ∃ w, (D (c :: r)).2 = w := ⟨_, rfl⟩;have hap := fun t (ht : Val t) => zGo (t := t) hb h0 ht;rw [hw] at hv2 h2 hD hap
     have hall : ∀ z ∈ (c :: r).take w, 128 ≤ z.toNat := fun z hz => by
      obtain ⟨i, hi, rfl⟩ := zKo hz;have hi' : i < w := by rw [zKi] at hi; omega
      have := h2 i hi';rw [zK3, zK1 (by rw [zKi] at hi; omega)] at this;simpa using this
     rw [← List.take_append_drop w (c :: r), zp0 _ _ hall] at hs;simp only [zKg, zKu] at hs;obtain ⟨⟨y, k⟩, hy, rfl, rfl⟩ := hs;obtain ⟨g1, g2, g3⟩ := ih _ y k (by rw [zKa]; simp only [zK2] at h ⊢; omega) hv2 hy;refine ⟨hap _ g1, ?_, fun z hz => ?_⟩
     · rw [List.drop_drop] at g2
       rw [zKi, Nat.min_eq_left hD.2.2.1, Nat.add_comm];exact g2
     · rcases List.mem_append.1 hz with hz | hz
       · exact .inl (by have := hall z hz; omega)
       · exact g3 z hz
theorem zy4 {s : ByteArray} (hv : Val (tl s)) (h : ∀ c ∈ tl s, 32 ≤ c.toNat ∨ c.toNat = 10) : ∀ (f pos : Nat), Val ((tl s).drop pos) → Lib.idxFuncFrom lowR true s f pos = -1 := by
 intro f
 induction f with
 | zero => intro pos _; rfl
 | succ f ih =>
  intro pos hp;unfold Lib.idxFuncFrom;split
  · rename_i hlt
    have hd : Utf8.decode s pos = D ((tl s).drop pos) := by
     rw [Lib.decode_at];unfold D;have hg : ∀ i, s.get! i = (tl s).getD i 0 := fun i => zma (tl s) i;rw [hg, hg, hg, hg];simp only [zKa, zab, zK3, List.getElem?_drop, Nat.add_zero]
    have h0 : 0 < ((tl s).drop pos).length := by rw [zKa, zab]; omega
    obtain ⟨hb, hv2⟩ := zl3 hp h0;rw [hd]
    have hlow : lowR (D ((tl s).drop pos)).1 = false := by
     rcases zis hb with ⟨_, h2, h3⟩ | ⟨h2, _⟩
     · have hm : ((tl s).drop pos).getD 0 0 ∈ tl s := by
        rw [zK3, zK1 h0];exact List.mem_of_mem_drop (zKe h0)
       have := h _ hm;rw [h3];generalize ((tl s).drop pos).getD 0 0 = c at this;unfold lowR;rcases this with this | this
       · simp; omega
       · simp [this]
     · unfold lowR; simp; omega
    rw [hlow, if_neg (by decide)];exact ih _ (by rw [List.drop_drop] at hv2; exact hv2)
  · rfl
theorem zA4 {l : List UInt8} (hv : Val l) (h : ∀ c ∈ l, 32 ≤ c.toNat ∨ c.toNat = 10) : lineB (bs l) = true := by
 unfold lineB badOf;rw [tl_bs, if_pos (show bd l 0 = l.length from hv)];have e : Lib.idxFunc lowR true (bs l) = -1 := zy4 (s := bs l) (by rw [tl_bs]; exact hv) (by rw [tl_bs]; exact h) _ 0 (by rw [tl_bs]; exact hv);rw [e]; decide
theorem zBy : ∀ (n : Nat) (a : List UInt8) (c : UInt8) (r : List UInt8), a.length ≤ n → c.toNat < 128 → Val (a ++ c :: r) → Val (c :: r) := by
 intro n
 induction n with
 | zero =>
  intro a c r h _ hv;obtain rfl : a = [] := List.length_eq_zero_iff.1 (by omega);exact hv
 | succ n ih =>
  intro a c r h hc hv
  cases a with
  | nil => exact hv
  | cons b a =>
   have h0 : 0 < ((b :: a) ++ c :: r).length := by simp
   obtain ⟨hb, hv2⟩ := zl3 hv h0;have hD := zbl _ h0
   have hw : (D ((b :: a) ++ c :: r)).2 ≤ (b :: a).length := by
    rcases zis hb with ⟨h1, _⟩ | ⟨_, h2⟩
    · rw [h1]; simp
    · refine Decidable.byContradiction fun hn => ?_
      have := h2 (b :: a).length (by omega);rw [zK3, zKl (zJw _), Nat.sub_self] at this;simp only [gB, Option.getD_some] at this;omega
   rw [List.drop_append_of_le_length hw] at hv2;exact ih _ c r (by rw [zKa]; simp only [zK2] at h ⊢; omega) hc hv2
theorem zgf {l : List UInt8} (hv : Val l) : ∀ (n : Nat), (∀ c ∈ l.take n, c.toNat < 128) → Val (l.drop n) := by
 intro n
 induction n generalizing l with
 | zero => intro _; exact hv
 | succ n ih =>
  intro h
  cases l with
  | nil => exact hv
  | cons c r =>
   exact ih ((zcq (h c (by simp))).1 hv) (fun x hx => h x (by simp [hx]))
theorem zBq : ∀ (n : Nat) (l : List UInt8), l.length ≤ n → Val l → Val (l.drop (skipN l)) := by
 intro n
 induction n with
 | zero =>
  intro l h hv;obtain rfl : l = [] := List.length_eq_zero_iff.1 (by omega);rw [zax]; exact hv
 | succ n ih =>
  intro l h hv
  cases l with
  | nil => rw [zax]; exact hv
  | cons c r =>
   by_cases hb : zc3 c = true
   · rw [zen c r hb]
     have hc : c.toNat < 128 := by unfold zc3 at hb; simp at hb; omega
     exact ih r (by simp only [zK2] at h; omega) ((zcq hc).1 hv)
   · by_cases hn : noteB (c :: r) = true
     · rw [zfa _ hn, ← List.drop_drop]
       have h2 := zey _ hn;have h3 := zij (c :: r);refine ih _ (by rw [zKa]; simp only [zK2] at h ⊢; omega) ?_
       cases hd : (c :: r).drop (noteN (c :: r)) with
       | nil => exact Val.nil
       | cons d r' =>
        have e : (c :: r).take (noteN (c :: r)) ++ d :: r' = c :: r := by rw [← hd, List.take_append_drop]
        have hd10 : d.toNat = 10 := by
         have hdw : (c :: r).dropWhile (fun c => decide (c.toNat ≠ 10)) = d :: r' := by
          have e1 := List.takeWhile_append_dropWhile (p := fun c : UInt8 => decide (c.toNat ≠ 10)) (l := c :: r)
          have e2 : (c :: r).drop (noteN (c :: r)) = (c :: r).dropWhile (fun c => decide (c.toNat ≠ 10)) := by
           unfold noteN;conv => lhs; arg 2; rw [← e1]
           rw [List.drop_left]
          rw [← e2]; exact hd
         have := List.head?_dropWhile_not (fun c : UInt8 => decide (c.toNat ≠ 10)) (c :: r);rw [hdw] at this;simpa using this
        exact zBy _ ((c :: r).take (noteN (c :: r))) d r' (zJw _) (by omega) (by rw [e]; exact hv)
     · rw [zcx c r (by simpa using hb) (by simpa using hn)]
       exact hv
theorem zmu {α : Type} {p : α → Bool} : ∀ {l : List α} {y : α}, y ∈ l.takeWhile p → p y = true
 | [], y, h => by simp at h
 | a :: l, y, h => by
  by_cases ha : p a = true
  · rw [List.takeWhile_cons_of_pos ha] at h
    rcases List.mem_cons.1 h with rfl | h
    · exact ha
    · exact zmu h
  · rw [List.takeWhile_cons_of_neg ha] at h; cases h
theorem zzc (p q : UInt8 → Bool) (l : List UInt8) : spanN p q (l.take (spanN p q l)) = spanN p q l := by
 cases l with
 | nil => rfl
 | cons c r =>
  by_cases h : p c = true
  · have e : spanN p q (c :: r) = (r.takeWhile q).length + 1 := by simp [spanN, h]
    rw [e, List.take_succ_cons]
    have e2 : r.take (r.takeWhile q).length = r.takeWhile q := by
     conv => lhs; arg 2; rw [← List.takeWhile_append_dropWhile (p := q) (l := r)]
     exact List.take_left
    rw [e2];simp only [spanN, h, if_true]
    have : (r.takeWhile q).takeWhile q = r.takeWhile q := ziz q _ (fun y hy => by
     have := zmu hy
     exact this)
    rw [this]
  · have e : spanN p q (c :: r) = 0 := by simp [spanN, h]
    rw [e]; rfl
theorem zp8 {l : List UInt8} (h : nameN l ≠ 0) (hw : isW (l.take (nameN l)) = false) : zac (l.take (nameN l)) = true := by
 have hle := zcl lowB zbj l;have e : nameN (l.take (nameN l)) = nameN l := zzc lowB zbj l;unfold zac;rw [hw, e];have : (l.take (nameN l)).length = nameN l := by rw [zKi]; exact Nat.min_eq_left hle
 rw [this];simp only [decide_true, Bool.not_false, Bool.and_true, zKq];intro hn;rw [hn] at this;simp at this
 omega
theorem zDu {l : List UInt8} (h : nameN l ≠ 0) : tagB (l.take (nameN l)) = true := by
 unfold tagB
 cases hw : isW (l.take (nameN l)) with
 | true => simp
 | false => rw [zp8 h hw]; rfl
theorem zCd {c : UInt8} {r : List UInt8} (h : highB c = true) : zbo ((c :: r).take (zc4 (c :: r))) = true := by
 have e : zc4 (c :: r) = (r.takeWhile aliB).length + 1 := by simp [zc4, spanN, h]
 rw [e, List.take_succ_cons]
 have e2 : r.take (r.takeWhile aliB).length = r.takeWhile aliB := by
  conv => lhs; arg 2; rw [← List.takeWhile_append_dropWhile (p := aliB) (l := r)]
  exact List.take_left
 rw [e2];simp only [zbo, h, Bool.true_and, List.all_eq_true];exact fun x hx => zmu hx
theorem zgd {p q : UInt8 → Bool} (hp : ∀ c, p c = true → c.toNat < 128) (hq : ∀ c, q c = true → c.toNat < 128) (l : List UInt8) : ∀ x ∈ l.take (spanN p q l), x.toNat < 128 := by
 intro x hx
 cases l with
 | nil => simp at hx
 | cons c r =>
  by_cases h : p c = true
  · have e : spanN p q (c :: r) = (r.takeWhile q).length + 1 := by simp [spanN, h]
    rw [e, List.take_succ_cons] at hx
    have e2 : r.take (r.takeWhile q).length = r.takeWhile q := by
     conv => lhs; arg 2; rw [← List.takeWhile_append_dropWhile (p := q) (l := r)]
     exact List.take_left
    rw [e2] at hx;rcases List.mem_cons.1 hx with rfl | hx
    · exact hp _ h
    · exact hq _ (zmu hx)
  · have e : spanN p q (c :: r) = 0 := by simp [spanN, h]
    rw [e] at hx; simp at hx
theorem zup (c : UInt8) (h : lowB c = true) : c.toNat < 128 := by unfold lowB at h; simp at h; omega
theorem zry (c : UInt8) (h : zbj c = true) : c.toNat < 128 := by unfold zbj lowB digB at h; simp at h; omega
theorem zDx (c : UInt8) (h : highB c = true) : c.toNat < 128 := by unfold highB at h; simp at h; omega
theorem zHb (c : UInt8) (h : aliB c = true) : c.toNat < 128 := by unfold aliB highB zb9 digB at h; simp at h; omega
theorem zui (c : UInt8) (h : digB c = true) : c.toNat < 128 := by unfold digB at h; simp at h; omega
theorem zHf (c : UInt8) (h : hexB c = true) : c.toNat < 128 := by unfold hexB digB at h; simp at h; omega
theorem zC9 {l : List UInt8} {t : Nat × List UInt8} {n : Nat} (hl : l.length ≤ 1000) (hv : Val l) (h : tok l = some (t, n)) (p : Nat) : TkGood (t.1, t.2, p) ∧ Val (l.drop n) := by
 have hlen := (zAj h p).2
 cases l with
 | nil => simp [tok] at h
 | cons c r =>
  rw [tok] at h;split at h
  · rename_i hld
    split at h
    · rename_i hf
      simp only [zKt, zKu] at h;obtain ⟨rfl, rfl⟩ := h;refine ⟨⟨zK4 hlen hl, by simp, by simp, by simp, by simp, by simp⟩, zgf hv 18 (fun x hx => ?_)⟩;unfold leadB at hld;unfold fltB at hf;simp only [zK6, zKq, List.all_eq_true] at hld hf;have e : (c :: r).take 18 = (c :: r).take 2 ++ ((c :: r).drop 2).take 16 := List.take_add (i := 2) (j := 16);rw [e, hld] at hx;rcases List.mem_append.1 hx with hx | hx
      · simp only [zKf, zKn, or_false] at hx
        rcases hx with rfl | rfl <;> decide
      · exact zHf x (hf.2 x hx)
    · cases h
  split at h
  · rename_i hc
    simp only [zKg, zKu] at h;obtain ⟨⟨x, m⟩, hx, rfl, rfl⟩ := h;have hvr := (zcq (c := c) (by omega)).1 hv;obtain ⟨h1, h2, h3⟩ := zxc _ r x m (zJw _) hvr hx;exact ⟨⟨zK4 hlen hl, by simp, by simp, by simp, fun _ => zA4 h1 h3, by simp⟩, h2⟩
  split at h
  · rename_i hc
    split at h
    · cases h
    · rename_i h0
      simp only [zKt, zKu] at h;obtain ⟨rfl, rfl⟩ := h;have hvr := (zcq (c := c) (by omega)).1 hv;exact ⟨⟨zK4 hlen hl, by simp, by simp, fun _ => zDu h0, by simp, by simp⟩, zgf hvr _ (zgd zup zry r)⟩
  split at h
  · split at h
    · cases h
    · rename_i h0
      simp only [zKt, zKu] at h;obtain ⟨rfl, rfl⟩ := h;have hi := ztu h0
      have hN : intN (c :: r) = digN (c :: r) ∧ decV 0 ((c :: r).take (digN (c :: r))) ≤ 9223372036854775807 := by
       unfold intN at h0 ⊢;split at h0
       · rename_i hc; rw [if_pos hc]; exact ⟨rfl, hc.2⟩
       · exact absurd rfl h0
      refine ⟨⟨zK4 hlen hl, by simp, by simp, by simp, by simp, fun _ => ⟨_, hi, by omega, ?_⟩⟩, ?_⟩
      · rw [hN.1]; have := hN.2; omega
      · rw [hN.1]; exact zgf hv _ (zgd zui zui (c :: r))
  split at h
  · rename_i hlow
    simp only [zKt, zKu] at h;obtain ⟨rfl, rfl⟩ := h;have hn0 : nameN (c :: r) ≠ 0 := by simp [nameN, spanN, hlow]
    refine ⟨⟨zK4 hlen hl, fun e => ?_, fun e => ?_, fun e => ?_, fun e => ?_, fun e => ?_⟩, zgf hv _ (zgd zup zry (c :: r))⟩
    · refine zp8 hn0 ?_
      dsimp only at e;split at e
      · omega
      · rename_i hw; simpa using hw
    all_goals (dsimp only at e; split at e <;> omega)
  split at h
  · rename_i hhi
    simp only [zKt, zKu] at h;obtain ⟨rfl, rfl⟩ := h;exact ⟨⟨zK4 hlen hl, by simp, fun _ => zCd hhi, by simp, by simp, by simp⟩, zgf hv _ (zgd zDx zHb (c :: r))⟩
  split at h
  · cases h
  · rename_i hs
    simp only [zKt, zKu] at h;obtain ⟨rfl, rfl⟩ := h;refine ⟨⟨zK4 hlen hl, by simp, by simp, by simp, by simp, by simp⟩, zgf hv _ (fun x hx => ?_)⟩;have hz : ∀ (y : UInt8) (L : List UInt8), y ∈ L → (∀ z ∈ L, z.toNat < 128) → y.toNat < 128 := fun y L hy hL => hL y hy;unfold signN at hx hs;split at hx
    · rename_i h2
      have : ∀ L ∈ twos, ∀ z ∈ L, z.toNat < 128 := by decide
      exact this _ h2 x hx
    · rename_i h2
      rw [if_neg h2] at hs;split at hx
      · rename_i h1
        rw [List.take_succ_cons, List.take_zero] at hx;simp only [zK7] at hx;subst hx;have : ∀ z ∈ ones, z.toNat < 128 := by decide
        exact this _ h1
      · simp at hx
theorem zAp : ∀ (n : Nat) (l : List UInt8) (k : Nat) (ts : List Tk), l.length ≤ n → l.length ≤ 1000 → Val l → lexR l k = .ok ts → ∀ t ∈ ts, TkGood t := by
 have hend : ∀ p, TkGood (0, [], p) := fun p => ⟨by simp, by simp, by simp, by simp, by simp, by simp⟩;intro n
 induction n with
 | zero =>
  intro l k ts hl _ hv h;obtain rfl : l = [] := List.length_eq_zero_iff.1 (by omega);rw [zaz [] k (by simp)] at h;injection h with h
  subst h;intro t ht;simp only [zK7] at ht;subst ht; exact hend _
 | succ n ih =>
  intro l k ts hl hl2 hv h;by_cases h0 : l.drop (skipN l) = []
  · rw [zaz l k h0] at h
    injection h with h
    subst h;intro t ht;simp only [zK7] at ht;subst ht; exact hend _
  · cases ht : tok (l.drop (skipN l)) with
    | none => rw [zcd l k h0 ht] at h; cases h
    | some x =>
     obtain ⟨t, m⟩ := x;rw [zbw l k t m ht] at h;have hle := zg2 ht;rw [zKa] at hle;obtain ⟨hg, hv2⟩ := zC9 (by rw [zKa]; omega) (zBq _ l (zJw _) hv) ht (k + skipN l);rw [List.drop_drop] at hv2
     cases hr : lexR (l.drop (skipN l + m)) (k + skipN l + m) with
     | error e => rw [hr] at h; cases h
     | ok us =>
      rw [hr] at h;injection h with h
      subst h;intro y hy;rcases List.mem_append.1 hy with hy | hy
      · simp only [zK7] at hy
        subst hy; exact hg
      · exact ih _ _ us (by rw [zKa]; omega) (by rw [zKa]; omega) hv2 hr y hy
theorem zt0 {l : List UInt8} {ts : List Tk} (h : lexA l = .ok ts) (hl : l.length ≤ 900) : Good ts ∧ ts.length ≤ l.length + 1 := by
 obtain ⟨init, rfl, h1, h2, h3⟩ := zgj _ l 0 ts (zJw _) (zfn h).1
 have hlen : (init ++ [(0, [], 0 + l.length)]).length ≤ l.length + 1 := by
  simp only [zK5, zK2, zKc]; omega
 have hv : Val l := by
  have := bd_le l.length l 0 (zJw _);unfold lexA at h;rw [if_neg (by omega)] at h;split at h
  · cases h
  · unfold Val; omega
 refine ⟨⟨zc8 h (by omega), by omega, fun k hk => ?_⟩, hlen⟩;refine zAp _ l 0 _ (zJw _) (by omega) hv (zfn h).1 _ ?_;unfold tkA;rw [zK3, zK1 hk];exact zKe hk
end Go.Proofs.YtidmeodmkcomlaaGreatDoor
