/- The chapter's example holds: the walk, over the whole parser. A blank behind a token leaves it as it is; bytes whose tokens are told, then a blank and a -/
import Derived.Test.YtidmeodmkcomlaaGreatDoorK01
import Derived.Test.YtidmeodmkcomlaaGreatDoorK31
import Derived.Test.YtidmeodmkcomlaaGreatDoorK42
import Derived.Deep.QuietTactic
import Derived.BigQuiet
import Derived.Deep.Cut
import Derived.Test.YtidmeodmkcomlaaGreatDoorK15
import Derived.Test.YtidmeodmkcomlaaGreatDoorK33
namespace Go.Proofs.YtidmeodmkcomlaaGreatDoor
open Go Go.Proofs Go.RowKit
set_option maxHeartbeats 8000000
theorem exFew : zb1 ⟨exTree, [], []⟩ := by
 refine ⟨fun x hx => ?_, fun x hx => by simp at hx, fun x hx => by simp at hx, by simp, by simp [exTree], by simp⟩;simp only [exTree, zKf, zKn, or_false] at hx;rcases hx with rfl | rfl | rfl | rfl
 all_goals simp [zbb, bs]
 all_goals simp [ByteArray.size]
theorem znp : zbq ⟨exTree, [], []⟩ = true := by kernel_rfl
set_option maxRecDepth 100000 in
theorem zjm (w : World) (hE : Env w) : Calls Tryz.prog 8 #[] w fun e W' => e = .returned (.bool true) ∧ Below w.heap.size w W' := by
 obtain ⟨w0, hw0⟩ : ∃ w0, w.alloc (.cells #[.int .u8 102, .int .u8 32, .int .u8 120, .int .u8 46, .int .u8 97] 5 (5, 6)) = w0 := ⟨_, rfl⟩;have hb0 : Below w.heap.size w w0 := by rw [← hw0]; exact (zJx _ w).alloc (zJw _) _
 have hs0 : w0.heap.size = w.heap.size + 1 := by rw [← hw0]; simp
 have hT : TextAt w0.heap.size w0 (.slice (some ⟨w.heap.size, 0, none⟩) 5 5) exL := by
  rw [← hw0];exact zr5 _ w _ (5, 6) exL rfl (by simp)
 have cL := zvp exL (by decide) (some ⟨w.heap.size, 0, none⟩) 5 5 w0 rfl (hE.on hb0) hT;rw [zI4] at cL;have kc := fun (w : World) (C : Array Value) (n c : Nat) => Lib.run_convert_bytes_const (P := Tryz.prog) w 33 5 C n c Tryz.underlying33 Tryz.underlying5;clear hT;go_enter Tryz.func8, Tryz.ntmps8
 go_wp2_with fail
 refine cL.mono ?_;rintro e w1 ⟨p, rfl, hTA, hb1⟩;go_wp2_with fail
 obtain ⟨W2, hW2⟩ : ∃ W2, w1.alloc (.cells #[.slice p.a1 exTree.length p.c1, .slice p.a2 0 p.c2, .slice p.a3 0 p.c3] 27) = W2 := ⟨_, rfl⟩;obtain ⟨W3, hW3⟩ : ∃ W3, W2.alloc (.cells #[.int .i64 0, .int .i64 0, .string ⟨#[]⟩] 30) = W3 := ⟨_, rfl⟩;rw [hW2, hW3];have hb2 : Below w1.heap.size w1 W2 := by rw [← hW2]; exact (zJx _ _).alloc (zJw _) _
 have hb3 : Below W2.heap.size W2 W3 := by rw [← hW3]; exact (zJx _ _).alloc (zJw _) _
 have hX2 : Blk W2 w1.heap.size 27 #[.slice p.a1 exTree.length p.c1, .slice p.a2 0 p.c2, .slice p.a3 0 p.c3] := by rw [← hW2]; exact Blk.new w1 27 _
 have hX3 := hX2.below hb3 hX2.lt;have hb13 : Below w1.heap.size w1 W3 := hb2.trans (hb3.mono hb2.size);have hTA3 : TreeAt (Lt W3.heap.size) W3 ⟨exTree, [], []⟩ p := (hTA.keep (fun b o hb => hb13.cell (p := ⟨b, o, none⟩) hb.2)).imp (fun b hb => zJy hb.2 hb13.size)
 have cR := zhc ⟨exTree, [], []⟩ p W3 hTA3 exFew (fun x hx => by
  simp only [exTree, zKf, zKn, or_false] at hx;rcases hx with rfl | rfl | rfl | rfl
  all_goals decide)
 rw [znp] at cR;obtain ⟨b, off, hpa, hbb, hcell⟩ := hTA3.1 (by decide);obtain ⟨q, _, hq⟩ := hcell 3 _ rfl;have f0 := hq 0 _ rfl;have f1 := hq 1 _ rfl;have hbw : Below w.heap.size w W3 := hb0.trans ((hb1.trans (hb13.mono hb1.size)).mono hb0.size);have HBW := zJv hbw;have hexl : exTree.length = 4 := rfl;clear hTA hTA3 hcell hq hb0 hb1 hb2 hb3 hb13 hbw cL kc hX2;refine cR.mono ?_;rintro e w4 ⟨rfl, hb4⟩;have hX4 := hX3.below hb4 hX3.lt;have x0 := hX4.cell 0;simp only [gA, gB] at x0;have g0 := (hb4.cell (p := ⟨b, off + 3 * 8 + 0, none⟩) hbb).trans f0;have g1 := (hb4.cell (p := ⟨b, off + 3 * 8 + 1, none⟩) hbb).trans f1;rw [hpa, hexl] at x0;have HB4 := zJv hb4;clear hb4 cR f0 f1 hX3 hX4 hW2 hW3;go_wp2_with fail
 go_ret;exact ⟨rfl, HBW.out.trans (HB4.out.mono HBW.out.size)⟩
theorem zu8 (q : UInt8 → Bool) (h : q 32 = false) : ∀ (r t : List UInt8), (r ++ 32 :: t).takeWhile q = r.takeWhile q
 | [], t => by simp [h]
 | c :: r, t => by
  by_cases hc : q c = true
  · rw [List.cons_append, List.takeWhile_cons_of_pos hc, List.takeWhile_cons_of_pos hc, zu8 q h r t]
  · rw [List.cons_append, List.takeWhile_cons_of_neg hc, List.takeWhile_cons_of_neg hc]
theorem zhk (p q : UInt8 → Bool) (hp : p 32 = false) (hq : q 32 = false) (r t : List UInt8) : spanN p q (r ++ 32 :: t) = spanN p q r := by
 cases r with
 | nil => simp [spanN, hp]
 | cons c r =>
  show (if p c then ((r ++ 32 :: t).takeWhile q).length + 1 else 0) = _
  rw [zu8 q hq]; rfl
theorem zdt {n : Nat} {l s : List UInt8} (h : n ≤ l.length) : (l ++ s).take n = l.take n := List.take_append_of_le_length h
theorem zzg : ∀ (n : Nat) (l s : List UInt8) (x : List UInt8 × Nat), l.length ≤ n → strV l = some x → strV (l ++ s) = some x := by
 intro n
 induction n with
 | zero =>
  intro l s x h hs
  obtain rfl : l = [] := List.length_eq_zero_iff.1 (by omega)
  rw [zck] at hs; cases hs
 | succ n ih =>
  intro l s x h hs
  cases l with
  | nil => rw [zck] at hs; cases hs
  | cons c r =>
   rw [List.cons_append, zbd]
   rw [zbd] at hs
   split at hs
   · rename_i h1; rw [if_pos h1]; exact hs
   rename_i h1
   rw [if_neg h1]
   split at hs
   · cases hs
   rename_i h2
   rw [if_neg h2]
   split at hs
   · rename_i h3
     rw [if_pos h3]
     cases r with
     | nil => cases hs
     | cons d r' =>
      dsimp only [List.cons_append] at hs ⊢
      cases he : escB d with
      | none => rw [he] at hs; cases hs
      | some e =>
       rw [he] at hs
       simp only [Option.map_eq_some_iff] at hs ⊢
       obtain ⟨y, hy, e⟩ := hs
       exact ⟨y, ih r' s y (by simp only [List.length_cons] at h; omega) hy, e⟩
   · rename_i h3
     rw [if_neg h3]
     simp only [Option.map_eq_some_iff] at hs ⊢
     obtain ⟨y, hy, e⟩ := hs
     exact ⟨y, ih r s y (by simp only [List.length_cons] at h; omega) hy, e⟩
theorem zip (c : UInt8) (r t : List UInt8) : ((c :: r) ++ 32 :: t).take 2 = (c :: r).take 2 ∨ (r = [] ∧ ((c :: r) ++ 32 :: t).take 2 = [c, 32]) := by
 cases r with
 | nil => exact .inr ⟨rfl, rfl⟩
 | cons d r => exact .inl rfl
theorem zAk (c : UInt8) (r t : List UInt8) : leadB ((c :: r) ++ 32 :: t) = leadB (c :: r) := by
 unfold leadB
 rcases zip c r t with h | ⟨rfl, h⟩
 · rw [h]
 · rw [h]
   have h1 : ¬ ([c, 32] : List UInt8) = [102, 39] := by simp
   have h2 : ¬ ([c] : List UInt8).take 2 = [102, 39] := by simp
   rw [decide_eq_false h1, decide_eq_false h2]
theorem zo1 (c : UInt8) (r t : List UInt8) : noteB ((c :: r) ++ 32 :: t) = noteB (c :: r) := by
 unfold noteB
 rcases zip c r t with h | ⟨rfl, h⟩
 · rw [h]
 · rw [h]
   have h1 : ¬ ([c, 32] : List UInt8) = [47, 47] := by simp
   have h2 : ¬ ([c] : List UInt8).take 2 = [47, 47] := by simp
   rw [decide_eq_false h1, decide_eq_false h2]
theorem zxt (c : UInt8) (r t : List UInt8) : signN ((c :: r) ++ 32 :: t) = signN (c :: r) := by
 unfold signN
 rcases zip c r t with h | ⟨rfl, h⟩
 · rw [h]; rfl
 · rw [h]
   have h1 : ¬ ([c, 32] : List UInt8) ∈ twos := by simp [twos]
   have h2 : ¬ ([c] : List UInt8).take 2 ∈ twos := by simp [twos]
   rw [if_neg h1, if_neg h2]; rfl
theorem zGa (c : UInt8) (r : List UInt8) : signN (c :: r) ≤ (c :: r).length := zqu c r
theorem zBx {c : UInt8} {r t : List UInt8} {x : (Nat × List UInt8) × Nat} (h : tok (c :: r) = some x) : tok ((c :: r) ++ 32 :: t) = some x := by
 rw [List.cons_append, tok, ← List.cons_append, zAk]
 rw [tok] at h
 split at h
 · rename_i hl
   rw [if_pos hl]
   split at h
   · rename_i hf
     have hlen : 18 ≤ (c :: r).length := by unfold fltB at hf; simp only [Bool.and_eq_true, decide_eq_true_eq] at hf; exact hf.1
     have e18 : ((c :: r) ++ 32 :: t).take 18 = (c :: r).take 18 := zdt hlen
     have hf2 : fltB ((c :: r) ++ 32 :: t) = true := by
      unfold fltB at hf ⊢
      simp only [Bool.and_eq_true, decide_eq_true_eq] at hf ⊢
      refine ⟨by rw [List.length_append]; omega, ?_⟩
      have e16 : (((c :: r) ++ 32 :: t).drop 2).take 16 = ((c :: r).drop 2).take 16 := by
       rw [List.drop_append_of_le_length (by omega), zdt (by rw [List.length_drop]; omega)]
      rw [e16]; exact hf.2
     rw [if_pos hf2, e18]; exact h
   · cases h
 rename_i hl
 rw [if_neg hl]
 split at h
 · rename_i hc
   rw [if_pos hc]
   simp only [Option.map_eq_some_iff] at h ⊢
   obtain ⟨y, hy, e⟩ := h
   exact ⟨y, zzg _ r (32 :: t) y (Nat.le_refl _) hy, e⟩
 rename_i hc
 rw [if_neg hc]
 split at h
 · rename_i hc2
   rw [if_pos hc2]
   have e : nameN (r ++ 32 :: t) = nameN r := zhk lowB zbj (by decide) (by decide) r t
   rw [e, zdt (n := nameN r) (zcl lowB zbj r)]
   exact h
 rename_i hc2
 rw [if_neg hc2]
 split at h
 · rename_i hd
   rw [if_pos hd]
   have e : digN ((c :: r) ++ 32 :: t) = digN (c :: r) := zhk digB digB (by decide) (by decide) (c :: r) t
   have ei : intN ((c :: r) ++ 32 :: t) = intN (c :: r) := by
    unfold intN
    rw [e, zdt (n := digN (c :: r)) (zcl digB digB (c :: r))]; rfl
   rw [ei, zdt (ztm (c :: r))]
   exact h
 rename_i hd
 rw [if_neg hd]
 split at h
 · rename_i hlo
   rw [if_pos hlo]
   have e : nameN ((c :: r) ++ 32 :: t) = nameN (c :: r) := zhk lowB zbj (by decide) (by decide) (c :: r) t
   rw [e, zdt (n := nameN (c :: r)) (zcl lowB zbj (c :: r))]
   exact h
 rename_i hlo
 rw [if_neg hlo]
 split at h
 · rename_i hhi
   rw [if_pos hhi]
   have e : zc4 ((c :: r) ++ 32 :: t) = zc4 (c :: r) := zhk highB aliB (by decide) (by decide) (c :: r) t
   rw [e, zdt (n := zc4 (c :: r)) (zcl highB aliB (c :: r))]
   exact h
 rename_i hhi
 rw [if_neg hhi, zxt, zdt (zGa c r)]
 exact h
theorem zG2 (l t : List UInt8) : noteN (l ++ 32 :: 10 :: t) = (if noteN l = l.length then l.length + 1 else noteN l) := by
 unfold noteN
 induction l with
 | nil => simp
 | cons c l ih =>
  by_cases hc : c.toNat ≠ 10
  · rw [List.cons_append, List.takeWhile_cons_of_pos (by simpa using hc), List.takeWhile_cons_of_pos (by simpa using hc), List.length_cons, List.length_cons, ih, List.length_cons]
    split
    · rename_i h; rw [if_pos (by omega)]
    · rename_i h; rw [if_neg (by omega)]
  · rw [List.cons_append, List.takeWhile_cons_of_neg (by simpa using hc), List.takeWhile_cons_of_neg (by simpa using hc)]
    simp
theorem zA5 : ∀ (n : Nat) (l : List UInt8) (k : Nat) (init : List Tk) (p : Nat) (t : List UInt8), l.length ≤ n → lexR l k = .ok (init ++ [(0, [], p)]) → lexR (l ++ 32 :: 10 :: t) k = prep init (lexR t (k + l.length + 2)) := by
 intro n
 have base : ∀ (t : List UInt8) (k : Nat), lexR (32 :: 10 :: t) k = lexR t (k + 2) := fun t k => by
  rw [zbf 32 _ _ (by decide), zbf 10 _ _ (by decide)]
 have hnil : ∀ (k : Nat) (init : List Tk) (p : Nat) (t : List UInt8), lexR [] k = .ok (init ++ [(0, [], p)]) → lexR (32 :: 10 :: t) k = prep init (lexR t (k + 0 + 2)) := fun k init p t h => by
  rw [zaz [] k (by simp)] at h
  injection h with h
  have hi : init = [] := by
   have := congrArg List.length h
   simp at this
   exact this
  subst hi
  rw [zic, base]
 induction n with
 | zero =>
  intro l k init p t hl h
  obtain rfl : l = [] := List.length_eq_zero_iff.1 (by omega)
  exact hnil k init p t h
 | succ n ih =>
  intro l k init p t hl h
  cases l with
  | nil => exact hnil k init p t h
  | cons c r =>
   by_cases hb : zc3 c = true
   · rw [zbf c r k hb] at h
     rw [List.cons_append, zbf c _ k hb, ih r (k + 1) init p t (by simp only [List.length_cons] at hl; omega) h, List.length_cons]
     congr 2; omega
   have hb' : zc3 c = false := by simpa using hb
   by_cases hn : noteB (c :: r) = true
   · rw [zpe _ k hn] at h
     have hn2 : noteB ((c :: r) ++ 32 :: 10 :: t) = true := by rw [zo1]; exact hn
     have h2 := zey _ hn
     have h3 := zij (c :: r)
     rw [zpe _ k hn2, zG2]
     by_cases hf : noteN (c :: r) = (c :: r).length
     · rw [if_pos hf]
       rw [hf, List.drop_eq_nil_of_le (Nat.le_refl _)] at h
       have hd : ((c :: r) ++ 32 :: 10 :: t).drop ((c :: r).length + 1) = 10 :: t := by
        rw [← List.drop_drop, List.drop_left]; rfl
       rw [hd, zbf 10 _ _ (by decide)]
       rw [zaz [] _ (by simp)] at h
       injection h with h
       have hi : init = [] := by
        have := congrArg List.length h
        simp at this
        exact this
       subst hi
       rw [zic]
       congr 1
     · rw [if_neg hf, List.drop_append_of_le_length h3, ih ((c :: r).drop (noteN (c :: r))) (k + noteN (c :: r)) init p t (by rw [List.length_drop]; simp only [List.length_cons] at hl ⊢; omega) h, List.length_drop]
       congr 2; omega
   have hn' : noteB (c :: r) = false := by simpa using hn
   cases ht : tok (c :: r) with
   | none =>
    have hz := zcx c r hb' hn'
    rw [zcd (c :: r) k (by rw [hz]; simp) (by rw [hz]; exact ht)] at h
    cases h
   | some x =>
    obtain ⟨tk, m⟩ := x
    have hm := zg2 ht
    rw [zbr c r k tk m hb' hn' ht] at h
    have ht2 := zBx (t := 10 :: t) ht
    have hn3 : noteB ((c :: r) ++ 32 :: 10 :: t) = false := by rw [zo1]; exact hn'
    rw [List.cons_append] at ht2 hn3 ⊢
    rw [zbr c _ k tk m hb' hn3 ht2]
    cases hr : lexR ((c :: r).drop m) (k + m) with
    | error e => rw [hr] at h; cases h
    | ok us =>
     rw [hr] at h
     injection h with h
     have hus : ∃ init', us = init' ++ [(0, [], p)] ∧ init = [(tk.1, tk.2, k)] ++ init' := by
      cases init with
      | nil =>
       have hne : us ≠ [] := by
        obtain ⟨i2, e2, _⟩ := zgj _ _ _ _ (Nat.le_refl _) hr
        rw [e2]; simp
       have := congrArg List.length h
       cases us with
       | nil => exact absurd rfl hne
       | cons a us => simp at this
      | cons a init =>
       simp only [List.cons_append, List.nil_append, List.cons.injEq] at h
       exact ⟨init, h.2, by rw [← h.1]; rfl⟩
     obtain ⟨init', rfl, rfl⟩ := hus
     have hd : (c :: (r ++ 32 :: 10 :: t)).drop m = (c :: r).drop m ++ 32 :: 10 :: t := by
      rw [← List.cons_append, List.drop_append_of_le_length hm.2]
     rw [hd, ih ((c :: r).drop m) (k + m) init' p t (by rw [List.length_drop]; simp only [List.length_cons] at hl ⊢; omega) hr, zjk, List.length_drop]
     congr 2; omega
structure Inv (n : Nat) (s : St) (p q : List Nat) : Prop where
 hk : s.k < n
 nod : ∀ (j : Nat) (x : TermD), s.t1[j]? = some x → (∀ k ∈ x.kids, 0 ≤ k ∧ k < (j : Int)) ∧ (∀ k ∈ x.types, 0 ≤ k ∧ k < (s.t2.length : Int)) ∧ termB x = true ∧ zbb x
 typ : ∀ (j : Nat) (x : TypD), s.t2[j]? = some x → (∀ k ∈ x.kids, 0 ≤ k ∧ k < (j : Int)) ∧ typB x = true ∧ zfg x
 ali : ∀ x ∈ s.t3, 0 ≤ x.type ∧ x.type < (s.t2.length : Int) ∧ zbo (tl x.name) = true ∧ x.name.size ≤ 1000
 pN : ∀ a : Nat, (nats (s.t1.flatMap (·.kids))).count a + p.count a = if a < s.t1.length then 1 else 0
 pT : ∀ a : Nat, (nats (s.t1.flatMap (·.types))).count a + (nats (s.t2.flatMap (·.kids))).count a + (nats (s.t3.map (·.type))).count a + q.count a = if a < s.t2.length then 1 else 0
 few : s.t3.length ≤ s.k
 big : s.t1.length ≤ 65536 ∧ s.t2.length ≤ 65536
def Wh {α : Type} (s : St) (post : α → St → Prop) : R3 α → Prop
 | .ok i s' => post i s' ∧ s.k ≤ s'.k ∧ ∀ x ∈ s.m, x ∈ s'.m
 | _ => True
section
variable {n : Nat} {ts : List Tk} {α β : Type} {s : St} {p q : List Nat}
theorem Wh.bind {post1 : α → St → Prop} {post : β → St → Prop} {P : R3 α} {f : α → St → R3 β} (h : Wh s post1 P) (k : ∀ i s1, P = .ok i s1 → post1 i s1 → s.k ≤ s1.k → (∀ x ∈ s.m, x ∈ s1.m) → Wh s1 post (f i s1)) : Wh s post (P.bind f) := by
 cases P with
 | ok i s1 =>
  obtain ⟨h1, h2, h3⟩ := h;have := k i s1 rfl h1 h2 h3;show Wh s post (f i s1)
  cases hf : f i s1 with
  | ok j s2 =>
   rw [hf] at this;obtain ⟨g1, g2, g3⟩ := this;exact ⟨g1, zK4 h2 g2, fun x hx => g3 x (h3 x hx)⟩
  | bad e p => trivial
  | un => trivial
 | bad e p => trivial
 | un => trivial
theorem Wh.imp {post1 post : α → St → Prop} {P : R3 α} (h : Wh s post1 P) (k : ∀ i s1, P = .ok i s1 → post1 i s1 → s.k ≤ s1.k → (∀ x ∈ s.m, x ∈ s1.m) → post i s1) : Wh s post P := by
 cases P with
 | ok i s1 => exact ⟨k i s1 rfl h.1 h.2.1 h.2.2, h.2⟩
 | bad e p => trivial
 | un => trivial
theorem Wh.moved {post : α → St → Prop} {P : R3 α} {s1 : St} (h : Wh s1 post P) (hk : s.k ≤ s1.k) (hm : s1.m = s.m) : Wh s post P := by
 cases P with
 | ok i s2 => exact ⟨h.1, zK4 hk h.2.1, fun x hx => h.2.2 x (by rw [hm]; exact hx)⟩
 | bad e p => trivial
 | un => trivial
theorem Wh.ok_ {post : α → St → Prop} {i : α} (h : post i s) : Wh s post (.ok i s) := ⟨h, zJw _, fun _ h => h⟩
theorem Inv.re {p' q' : List Nat} (h : Inv n s p q) (hp : ∀ a, p'.count a = p.count a) (hq : ∀ a, q'.count a = q.count a) : Inv n s p' q' := ⟨h.hk, h.nod, h.typ, h.ali, fun a => by rw [hp]; exact h.pN a, fun a => by rw [hq]; exact h.pT a, h.few, h.big⟩
theorem Inv.go {s' : St} (h : Inv n s p q) (hk : s'.k < n) (hle : s.k ≤ s'.k) (h1 : s'.t1 = s.t1) (h2 : s'.t2 = s.t2) (h3 : s'.t3 = s.t3) : Inv n s' p q :=
 ⟨hk, by rw [h1, h2]; exact h.nod, by rw [h2]; exact h.typ, by rw [h3, h2]; exact h.ali, by rw [h1]; exact h.pN, by rw [h1, h2, h3]; exact h.pT, by rw [h3]; exact zK4 h.few hle, by rw [h1, h2]; exact h.big⟩
theorem Inv.ltN (h : Inv n s p q) {a : Nat} (ha : a ∈ p) : a < s.t1.length := by
 have h1 := h.pN a;have h2 := List.count_pos_iff.2 ha;by_cases h3 : a < s.t1.length
 · exact h3
 · rw [if_neg h3] at h1; omega
theorem Inv.ltT (h : Inv n s p q) {a : Nat} (ha : a ∈ q) : a < s.t2.length := by
 have h1 := h.pT a;have h2 := List.count_pos_iff.2 ha;by_cases h3 : a < s.t2.length
 · exact h3
 · rw [if_neg h3] at h1; omega
theorem zld {ks : List Int} {k : Int} (h : k ∈ ks) : k.toNat ∈ nats ks := List.mem_map.2 ⟨k, h, rfl⟩
theorem zGc {x : TermD} (h : Inv n s (nats x.kids ++ p) (nats x.types ++ q)) (h0 : ∀ k ∈ x.kids, 0 ≤ k) (h1 : ∀ k ∈ x.types, 0 ≤ k) (hB : termB x = true) (hF : zbb x) : Wh s (fun i s' => Inv n s' (i :: p) q) (newT s x) := by
 unfold newT;split
 · rename_i hlt
   refine ⟨⟨h.hk, fun j y hy => ?_, h.typ, h.ali, fun a => ?_, fun a => ?_, h.few, ⟨by show (s.t1 ++ [x]).length ≤ 65536; rw [zK5]; exact hlt, h.big.2⟩⟩, zJw _, fun _ h => h⟩
   · have hy : (s.t1 ++ [x])[j]? = some y := hy
     rcases Nat.lt_trichotomy j s.t1.length with g | g | g
     · rw [zKm g] at hy
       exact h.nod j y hy
     · subst g
       rw [zKl (zJw _), Nat.sub_self] at hy;simp only [gB, zKt] at hy;subst hy;refine ⟨fun k hk => ⟨h0 k hk, ?_⟩, fun k hk => ⟨h1 k hk, ?_⟩, hB, hF⟩
       · have := h.ltN (List.mem_append_left _ (zld hk)); have := h0 k hk; omega
       · have := h.ltT (List.mem_append_left _ (zld hk)); have := h1 k hk
         show k < (s.t2.length : Int)
         omega
     · rw [List.getElem?_eq_none (by simp; omega)] at hy; cases hy
   · have := h.pN a
     show (nats ((s.t1 ++ [x]).flatMap (·.kids))).count a + (s.t1.length :: p).count a = if a < (s.t1 ++ [x]).length then 1 else 0
     simp only [List.flatMap_append, List.flatMap_cons, List.flatMap_nil, List.append_nil, zb6, zKk, List.count_cons, zK5, zK2, zKc, beq_iff_eq] at this ⊢;split at this <;> split <;> split <;> omega
   · have := h.pT a
     show (nats ((s.t1 ++ [x]).flatMap (·.types))).count a + (nats (s.t2.flatMap (·.kids))).count a + (nats (s.t3.map (·.type))).count a + q.count a = if a < s.t2.length then 1 else 0
     rw [← this];simp only [List.flatMap_append, List.flatMap_cons, List.flatMap_nil, List.append_nil, zb6, zKk];omega
 · trivial
theorem zk6 {x : TypD} (h : Inv n s p (nats x.kids ++ q)) (h0 : ∀ k ∈ x.kids, 0 ≤ k) (hB : typB x = true) (hF : zfg x) : Wh s (fun i s' => Inv n s' p (i :: q)) (newY s x) := by
 unfold newY;split
 · rename_i hlt
   refine ⟨⟨h.hk, fun j y hy => ?_, fun j y hy => ?_, fun y hy => ?_, h.pN, fun a => ?_, h.few, ⟨h.big.1, by show (s.t2 ++ [x]).length ≤ 65536; rw [zK5]; exact hlt⟩⟩, zJw _, fun _ h => h⟩
   · have := h.nod j y hy
     refine ⟨this.1, fun k hk => ⟨(this.2.1 k hk).1, ?_⟩, this.2.2⟩;have := (this.2.1 k hk).2;show k < ((s.t2 ++ [x]).length : Int)
     rw [zK5];simp only [zK2, zKc];omega
   · have hy : (s.t2 ++ [x])[j]? = some y := hy
     rcases Nat.lt_trichotomy j s.t2.length with g | g | g
     · rw [zKm g] at hy
       exact h.typ j y hy
     · subst g
       rw [zKl (zJw _), Nat.sub_self] at hy;simp only [gB, zKt] at hy;subst hy;refine ⟨fun k hk => ⟨h0 k hk, ?_⟩, hB, hF⟩;have := h.ltT (List.mem_append_left _ (zld hk)); have := h0 k hk; omega
     · rw [List.getElem?_eq_none (by simp; omega)] at hy; cases hy
   · have := h.ali y hy
     refine ⟨this.1, ?_, this.2.2⟩;have := this.2.1;show y.type < ((s.t2 ++ [x]).length : Int)
     rw [zK5];simp only [zK2, zKc];omega
   · have := h.pT a
     show (nats (s.t1.flatMap (·.types))).count a + (nats ((s.t2 ++ [x]).flatMap (·.kids))).count a + (nats (s.t3.map (·.type))).count a + (s.t2.length :: q).count a = if a < (s.t2 ++ [x]).length then 1 else 0
     simp only [List.flatMap_append, List.flatMap_cons, List.flatMap_nil, List.append_nil, zb6, zKk, List.count_cons, zK5, zK2, zKc, beq_iff_eq] at this ⊢;split at this <;> split <;> split <;> omega
 · trivial
theorem zEi {x : AliD} {i : Nat} {s' : St} (h : Inv n s p (i :: q)) (hx : x.type = (i : Int)) (hB : zbo (tl x.name) = true) (hF : x.name.size ≤ 1000) (h1 : s'.t1 = s.t1) (h2 : s'.t2 = s.t2) (h3 : s'.t3 = s.t3 ++ [x]) (hk : s.k + 1 ≤ s'.k) (hk2 : s'.k < n) : Inv n s' p q := by
 have hi := h.ltT (List.mem_cons_self ..);have hf := h.few;refine ⟨hk2, by rw [h1, h2]; exact h.nod, by rw [h2]; exact h.typ, fun y hy => ?_, by rw [h1]; exact h.pN, fun a => ?_, ?_, by rw [h1, h2]; exact h.big⟩
 · rw [h3] at hy
   rw [h2];rcases List.mem_append.1 hy with hy | hy
   · exact h.ali y hy
   · simp only [zK7] at hy
     subst hy;exact ⟨by omega, by omega, hB, hF⟩
 · have := h.pT a
   rw [h1, h2, h3, ← this];simp only [List.map_append, List.map_cons, List.map_nil, zb6, zKk, hx];simp only [nats, List.map_cons, List.map_nil, Int.toNat_natCast, List.count_cons, List.count_nil, beq_iff_eq];omega
 · rw [h3]
   simp only [zK5, zK2, zKc];omega
end
end Go.Proofs.YtidmeodmkcomlaaGreatDoor
