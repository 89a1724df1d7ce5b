/- The text of a token is as its kind asks. A text within brackets: its tokens. A term within brackets, level by level. Aliases are never fewer. A text within -/
import Derived.Test.YtidmeodmkcomlaaGreatDoorK31
import Derived.Test.YtidmeodmkcomlaaGreatDoorK45
import Derived.Test.YtidmeodmkcomlaaGreatDoorK43
import Derived.Test.YtidmeodmkcomlaaGreatDoorK01
import Derived.Test.YtidmeodmkcomlaaGreatDoorK07
namespace Go.Proofs.YtidmeodmkcomlaaGreatDoor
open Go Go.Proofs Go.RowKit
set_option maxHeartbeats 4000000
def Val (l : List UInt8) : Prop := bd l 0 = l.length
theorem Val.nil : Val [] := zcw [] 0 rfl
theorem zcq {c : UInt8} {r : List UInt8} (h : c.toNat < 128) : Val (c :: r) ↔ Val r := by
 unfold Val;rw [zgy c r h, zK2];omega
theorem zl3 {l : List UInt8} (h : Val l) (h0 : 0 < l.length) : ¬ isBad l ∧ Val (l.drop (D l).2) := by
 unfold Val at *;by_cases hb : isBad l
 · rw [zfe _ _ hb] at h; omega
 refine ⟨hb, ?_⟩;have hD := zbl l h0;rw [zd3 _ _ h0 hb, bd_on _ (l.drop (D l).2) 0 (D l).2 (zJw _)] at h;rw [zKa];omega
theorem zIv {l : List UInt8} (hb : ¬ isBad l) (h0 : 0 < l.length) (h : Val (l.drop (D l).2)) : Val l := by
 unfold Val at *;have hD := zbl l h0;rw [zd3 _ _ h0 hb, bd_on _ (l.drop (D l).2) 0 (D l).2 (zJw _), h, zKa];omega
theorem zis {l : List UInt8} (hb : ¬ isBad l) : ((D l).2 = 1 ∧ (l.getD 0 0).toNat < 128 ∧ (D l).1 = (l.getD 0 0).toNat) ∨ (128 ≤ (D l).1 ∧ ∀ i, i < (D l).2 → 128 ≤ (l.getD i 0).toNat) := by
 unfold isBad at hb;unfold D Go.Lib.decodeN at *;revert hb
 repeat' split
 all_goals (dsimp only; intro hb)
 all_goals first
  | (exfalso; omega)
  | (left; omega)
  | (right; refine ⟨by omega, fun i hi => ?_⟩; rcases i with _ | _ | _ | _ | i <;> (try simp only [Nat.zero_add, Nat.reduceAdd]) <;> omega)
set_option maxRecDepth 100000 in
theorem zI1 {l : List UInt8} (hb : ¬ isBad l) (h0 : 0 < l.length) : D (l.take (D l).2) = D l := by
 have hD := zbl l h0
 have hg : ∀ w i, i < w → (l.take w).getD i 0 = l.getD i 0 := fun w i hi => by
  simp only [zK3, List.getElem?_take, if_pos hi]
 have hl : ∀ w, w ≤ l.length → (l.take w).length = w := fun w hw => by rw [zKi]; omega
 generalize hw : (D l).2 = w at hD ⊢;have e := hl w hD.2.2.1;unfold isBad at hb;unfold D Go.Lib.decodeN at hb hw ⊢;rw [e];revert hb hw
 have g0 := hg w 0 (by omega);rw [g0];have g1 := fun h => hg w 1 h;have g2 := fun h => hg w 2 h;have g3 := fun h => hg w 3 h;generalize (l.take w).getD 1 0 = a1 at *;generalize (l.take w).getD 2 0 = a2 at *;generalize (l.take w).getD 3 0 = a3 at *;intro hb hw;have hcase : w = 1 ∨ w = 2 ∨ w = 3 ∨ w = 4 := by omega
 rcases hcase with rfl | rfl | rfl | rfl
 · revert hb hw
   repeat' split
   all_goals (dsimp only; intro hb hw)
   all_goals first | with_reducible rfl | (exfalso; omega)
 · rw [g1 (by omega)]
   revert hb hw
   repeat' split
   all_goals (dsimp only; intro hb hw)
   all_goals first | with_reducible rfl | (exfalso; omega)
 · rw [g1 (by omega), g2 (by omega)]
   revert hb hw
   repeat' split
   all_goals (dsimp only; intro hb hw)
   all_goals first | with_reducible rfl | (exfalso; omega)
 · rw [g1 (by omega), g2 (by omega), g3 (by omega)]
   revert hb hw
   repeat' split
   all_goals (dsimp only; intro hb hw)
   all_goals first | with_reducible rfl | (exfalso; omega)
def openT : Nat → Nat → List Tk
 | 0, _ => []
 | k + 1, p => (8, [40], p) :: openT k (p + 1)
def ze1 : Nat → Nat → List Tk
 | 0, p => [(0, [], p)]
 | k + 1, p => (8, [41], p) :: ze1 k (p + 1)
def brk (k : Nat) (b : List UInt8) : List UInt8 := List.replicate k 40 ++ (b ++ 32 :: 10 :: List.replicate k 41)
theorem zme : ∀ (k p : Nat), lexR (List.replicate k 41) p = .ok (ze1 k p)
 | 0, p => by rw [List.replicate_zero, zaz [] p (by simp), zax]; rfl
 | k + 1, p => by
  have ht : tok (41 :: List.replicate k 41) = some ((8, [41]), 1) := by
   cases k with
   | zero => decide
   | succ k =>
    show tok (41 :: 41 :: List.replicate k 41) = _
    rw [tok];rfl
  rw [List.replicate_succ, zbr 41 _ p (8, [41]) 1 (by decide) (by cases k <;> rfl) ht]
  show prep _ (lexR (List.replicate k 41) (p + 1)) = _
  rw [zme k (p + 1)]; rfl
theorem zEj (r : List UInt8) : tok (40 :: r) = some ((8, [40]), 1) := by
 cases r with
 | nil => decide
 | cons c r =>
  rw [tok]
  have h1 : leadB (40 :: c :: r) = false := by
   unfold leadB;have : ¬ (40 :: c :: r : List UInt8).take 2 = [102, 39] := by simp
   rw [decide_eq_false this]
  have h2 : signN (40 :: c :: r) = 1 := by
   unfold signN;have : ¬ (40 :: c :: r : List UInt8).take 2 ∈ twos := by simp [twos]
   rw [if_neg this, if_pos (by show (40 : UInt8) ∈ ones; decide)]
  rw [h1, h2];rfl
theorem zod : ∀ (k p : Nat) (r : List UInt8), lexR (List.replicate k 40 ++ r) p = prep (openT k p) (lexR r (p + k))
 | 0, p, r => by rw [List.replicate_zero, List.nil_append]; exact (zic _).symm
 | k + 1, p, r => by
  have hn : noteB (40 :: (List.replicate k 40 ++ r)) = false := by
   unfold noteB;have : ¬ (40 :: (List.replicate k 40 ++ r) : List UInt8).take 2 = [47, 47] := by simp
   rw [decide_eq_false this]
  rw [List.replicate_succ, zKj, zbr 40 _ p (8, [40]) 1 (by decide) hn (zEj _)];show prep _ (lexR (List.replicate k 40 ++ r) (p + 1)) = _
  rw [zod k (p + 1) r, zjk, show p + 1 + k = p + (k + 1) by omega]; rfl
theorem znf (c : UInt8) (h : c.toNat < 128) (r : List UInt8) : ∀ k, Val (List.replicate k c ++ r) ↔ Val r
 | 0 => by rw [List.replicate_zero, List.nil_append]
 | k + 1 => by rw [List.replicate_succ, zKj, zcq h]; exact znf c h r k
theorem zHe {k : Nat} {b : List UInt8} (h : Val b) : Val (brk k b) := by
 unfold brk;rw [znf 40 (by decide)];unfold Val at h ⊢;have h2 := (znz b.length b (32 :: 10 :: List.replicate k 41) 0 (zJw _) (by omega)).2;rw [h2, Nat.zero_add, zK5]
 have h3 : Val (32 :: 10 :: List.replicate k 41) := by
  rw [zcq (by decide), zcq (by decide)];have := (znf 41 (by decide) [] k).2 Val.nil;rwa [List.append_nil] at this
 unfold Val at h3;have h4 := bd_on _ (32 :: 10 :: List.replicate k 41) 0 b.length (zJw _);rw [Nat.zero_add] at h4;rw [h4, h3]; omega
theorem ztc (k : Nat) (b : List UInt8) : (brk k b).length = b.length + 2 * k + 2 := by
 unfold brk;simp only [zK5, List.length_replicate, zK2];omega
theorem zC5 {k : Nat} {b : List UInt8} {init : List Tk} {p : Nat} (hb : b.length ≤ 1000) (hk : k ≤ 1000) (h : lexA b = .ok (init ++ [(0, [], p)])) : lexA (brk k b) = .ok (openT k 0 ++ (init.map (shK k) ++ ze1 k (k + b.length + 2))) := by
 have hv : Val b := by
  have := bd_le b.length b 0 (zJw _);unfold lexA at h;rw [if_neg (by omega)] at h;split at h
  · cases h
  · unfold Val; omega
 have hv2 := zHe (k := k) hv;have hl := ztc k b;unfold lexA;rw [if_neg (by omega), if_neg (by unfold Val at hv2; omega)]
 have hR : lexR (brk k b) 0 = .ok (openT k 0 ++ (init.map (shK k) ++ ze1 k (k + b.length + 2))) := by
  unfold brk;rw [zod, Nat.zero_add];have h1 := zto b.length b 0 k (zJw _);rw [(zfn h).1, Nat.zero_add] at h1;dsimp only at h1;rw [List.map_append] at h1;have h2 := zA5 b.length b k (init.map (shK k)) (p + k) (List.replicate k 41) (zJw _) h1;rw [h2, zme];rfl
 rw [hR]
section
variable {us : List Tk} {s s1 : St} {i f pj p1 : Nat} {E T : St → R3 Nat}
theorem zvl {t : Tk} (h : Calm t) : unitB t = false := by
 unfold unitB;rw [zcz h (l := [[116, 114, 117, 101], [102, 97, 108, 115, 101], [40], [123]]) rfl];rcases h with h | ⟨h, _⟩ <;> rw [h] <;> rfl
theorem zCj (hj : tkA us s.k = (8, [40], pj)) (hE : E (s.on 1) = .ok i s1) (h41 : tkA us s1.k = (8, [41], p1)) : atomM us E T s = .ok i (s1.on 1) := by
 unfold atomM;rw [if_pos (by show za2 (tkA us s.k) _ = true; rw [hj]; rfl)];unfold zas;rw [hE];show (if isA us s1 [[41]] = true then _ else _) = _
 rw [if_pos (by show za2 (tkA us s1.k) _ = true; rw [h41]; rfl)]
theorem zC2 (hn : 0 < us.length) (hj : tkA us s.k = (8, [40], pj)) (hE : E (s.on 1) = .ok i s1) (h41 : tkA us s1.k = (8, [41], p1)) (hc : Calm (tkA us (s1.k + 1))) : postM us E T s = .ok i (s1.on 1) := by
 unfold postM;rw [zCj hj hE h41];show postL us us.length i (s1.on 1) = _
 obtain ⟨n, hn⟩ : ∃ n, us.length = n + 1 := ⟨us.length - 1, by omega⟩;rw [hn];unfold postL;rw [if_neg (by show ¬ za2 (tkA us (s1.k + 1)) _ = true; rw [zcz hc rfl]; decide)]
theorem zEg (hn : 0 < us.length) (hj : tkA us s.k = (8, [40], pj)) (hE : E (s.on 1) = .ok i s1) (h41 : tkA us s1.k = (8, [41], p1)) (hc : Calm (tkA us (s1.k + 1))) : unitM us E T s = .ok i (s1.on 1) := by
 unfold unitM;rw [if_neg (by rw [hj]; show ¬ (8 : Nat) = 3; decide)];exact zC2 hn hj hE h41 hc
theorem zz2 (hn : 0 < us.length) (hj : tkA us s.k = (8, [40], pj)) (hE : E (s.on 1) = .ok i s1) (h41 : tkA us s1.k = (8, [41], p1)) (hc : Calm (tkA us (s1.k + 1))) : zb0 us E T s = .ok i (s1.on 1) := by
 unfold zb0;rw [zEg hn hj hE h41 hc];show zat us E T us.length i (s1.on 1) = _
 obtain ⟨n, hn⟩ : ∃ n, us.length = n + 1 := ⟨us.length - 1, by omega⟩;rw [hn];unfold zat;rw [if_neg (by show ¬ unitB (tkA us (s1.k + 1)) = true; rw [zvl hc]; decide)]
theorem zno {P : St → R3 Nat} {sg : List (List UInt8)} (hn : 0 < us.length) (hP : P s = .ok i (s1.on 1)) (hc : Calm (tkA us (s1.k + 1))) (hl : sg.any (fun x => x == [41]) = false) : rowM us P sg s = .ok i (s1.on 1) := by
 unfold rowM;rw [hP];show rowL us P sg us.length i (s1.on 1) = _
 obtain ⟨n, hn⟩ : ∃ n, us.length = n + 1 := ⟨us.length - 1, by omega⟩;rw [hn];unfold rowL;rw [if_neg (by show ¬ za2 (tkA us (s1.k + 1)) _ = true; rw [zcz hc hl]; decide)]
theorem zzl (hn : 0 < us.length) (hj : tkA us s.k = (8, [40], pj)) (hE : E (s.on 1) = .ok i s1) (h41 : tkA us s1.k = (8, [41], p1)) (hc : Calm (tkA us (s1.k + 1))) : zba us E T s = .ok i (s1.on 1) := by
 have hat : ∀ l, isA us s l = za2 (8, [40], pj) l := fun l => by show za2 (tkA us s.k) l = _; rw [hj]
 unfold zba;rw [hat, hat, hat, hat, if_neg (show ¬ za2 (8, [40], pj) [[102, 117, 110]] = true from fun h => Bool.false_ne_true h), if_neg (show ¬ za2 (8, [40], pj) [[108, 101, 116]] = true from fun h => Bool.false_ne_true h), if_neg (show ¬ za2 (8, [40], pj) [[105, 102]] = true from fun h => Bool.false_ne_true h), if_neg (show ¬ za2 (8, [40], pj) [[99, 97, 115, 101]] = true from fun h => Bool.false_ne_true h)];unfold zad;have h1 : joinM us E T s = .ok i (s1.on 1) := zno hn (zno hn (zno hn (zz2 hn hj hE h41 hc) hc rfl) hc rfl) hc rfl;rw [h1];show (if isA us (s1.on 1) _ = true then _ else _) = _
 rw [if_neg (by show ¬ za2 (tkA us (s1.k + 1)) _ = true; rw [zcz hc rfl]; decide)]
theorem zEm (hn : 0 < us.length) (ho : s.op ≠ 256) (hj : tkA us s.k = (8, [40], pj)) (hE : termM us f (s.up.on 1) = .ok i s1) (h41 : tkA us s1.k = (8, [41], p1)) (hc : Calm (tkA us (s1.k + 1))) : termM us (f + 1) s = .ok i (s1.on 1).down := by
 unfold termM;rw [if_neg ho, zzl (s := s.up) hn hj hE h41 hc];rfl
theorem zqb {c q : Nat} (ho : s.op ≠ 256) (hj : tkA us s.k = (8, [40], pj)) (hE : termM us f (s.up.on 1) = .bad c q) : termM us (f + 1) s = .bad c q := by
 have hat : ∀ l, isA us s.up l = za2 (8, [40], pj) l := fun l => by show za2 (tkA us s.k) l = _; rw [hj]
 unfold termM;rw [if_neg ho];unfold zba;rw [hat, hat, hat, hat, if_neg (show ¬ za2 (8, [40], pj) [[102, 117, 110]] = true from fun h => Bool.false_ne_true h), if_neg (show ¬ za2 (8, [40], pj) [[108, 101, 116]] = true from fun h => Bool.false_ne_true h), if_neg (show ¬ za2 (8, [40], pj) [[105, 102]] = true from fun h => Bool.false_ne_true h), if_neg (show ¬ za2 (8, [40], pj) [[99, 97, 115, 101]] = true from fun h => Bool.false_ne_true h)];unfold zad joinM rowM sumM rowM zb2 rowM zb0 unitM;rw [if_neg (by show ¬ (tkA us s.k).1 = 3; rw [hj]; show ¬ (8 : Nat) = 3; decide)];unfold postM atomM;rw [hat, if_pos (show za2 (8, [40], pj) [[40]] = true from rfl)];unfold zas;rw [hE]; rfl
theorem zt5 (ho : s.op ≠ 256) (hj : tkA us s.k = (8, [40], pj)) (hE : termM us f (s.up.on 1) = .un) : termM us (f + 1) s = .un := by
 have hat : ∀ l, isA us s.up l = za2 (8, [40], pj) l := fun l => by show za2 (tkA us s.k) l = _; rw [hj]
 unfold termM;rw [if_neg ho];unfold zba;rw [hat, hat, hat, hat, if_neg (show ¬ za2 (8, [40], pj) [[102, 117, 110]] = true from fun h => Bool.false_ne_true h), if_neg (show ¬ za2 (8, [40], pj) [[108, 101, 116]] = true from fun h => Bool.false_ne_true h), if_neg (show ¬ za2 (8, [40], pj) [[105, 102]] = true from fun h => Bool.false_ne_true h), if_neg (show ¬ za2 (8, [40], pj) [[99, 97, 115, 101]] = true from fun h => Bool.false_ne_true h)];unfold zad joinM rowM sumM rowM zb2 rowM zb0 unitM;rw [if_neg (by show ¬ (tkA us s.k).1 = 3; rw [hj]; show ¬ (8 : Nat) = 3; decide)];unfold postM atomM;rw [hat, if_pos (show za2 (8, [40], pj) [[40]] = true from rfl)];unfold zas;rw [hE]; rfl
end
def Al {α : Type} (s : St) : R3 α → Prop
 | .ok _ s' => s.t3.length ≤ s'.t3.length
 | _ => True
section
variable {α β : Type} {ts : List Tk}
theorem Al.bind {s : St} {P : R3 α} {f : α → St → R3 β} (h : Al s P) (k : ∀ i s1, Al s1 (f i s1)) : Al s (P.bind f) := by
 cases P with
 | ok i s1 =>
  have := k i s1;show Al s (f i s1)
  cases hf : f i s1 with
  | ok j s2 => rw [hf] at this; exact zK4 h this
  | bad e p => trivial
  | un => trivial
 | bad e p => trivial
 | un => trivial
theorem Al.weak {s : St} {P : R3 α} (h : Al s P) (_ : (0 : Nat) ≤ 0) : Al s P := h
theorem Al.on {n : Nat} {s : St} {P : R3 α} (h : Al (s.on n) P) : Al s P := by cases P <;> exact h
theorem Al.moved {s s1 : St} {P : R3 α} (h : Al s1 P) (_ : s1.k = s.k) (_ : s1.t1 = s.t1) (_ : s1.t2 = s.t2) (h3 : s.t3.length ≤ s1.t3.length := by first | exact zJw _ | simp [St.addA]) : Al s P := by
 cases P with
 | ok i s2 => exact zK4 h3 h
 | bad e p => trivial
 | un => trivial
theorem Al.ok_ {s : St} {i : α} : Al s (.ok i s) := zJw _
theorem al_on {s : St} {i : α} : Al s (.ok i (s.on 1)) := zJw _
theorem al_token {kind : Nat} {s : St} : Al s (zag ts kind s) := by
 unfold zag;split
 · exact al_on
 · trivial
theorem al_must {x : List UInt8} {s : St} : Al s (mustM ts x s) := by
 unfold mustM;split
 · exact al_on
 · trivial
theorem al_own {o kind : Nat} {s : St} : Al s (ownM ts o kind s) := by
 refine Al.bind al_token (fun t s1 => ?_);split
 · trivial
 · exact zJw _
theorem al_newT {x : TermD} {s : St} : Al s (newT s x) := by
 unfold newT;split
 · exact zJw _
 · trivial
theorem al_newY {x : TypD} {s : St} : Al s (newY s x) := by
 unfold newY;split
 · exact zJw _
 · trivial
def AlT (P : St → R3 Nat) : Prop := ∀ s, Al s (P s)
variable {P E T : St → R3 Nat}
theorem zvj (hP : AlT P) (o : Nat) (sign : List UInt8) : ∀ (f : Nat) (ns : List (List UInt8)) (ks : List Int) (s : St), Al s (zbc ts P o sign f ns ks s) := by
 intro f
 induction f with
 | zero => intro ns ks s; trivial
 | succ f ih =>
  intro ns ks s;unfold zbc;refine Al.weak (al_own.bind (fun x s1 => al_must.bind (fun _ s2 => (hP s2).bind (fun i s3 => ?_)))) (by omega);split
  · exact al_on.weak (by omega)
  · exact (al_must.bind (fun _ s4 => ih _ _ s4)).weak (by omega)
theorem zoe (hP : AlT P) (o : Nat) (sign : List UInt8) (s : St) : Al s (zan ts P o sign s) := by
 unfold zan;split
 · exact al_on
 · exact zvj hP o sign _ _ _ s
theorem zmv (hT : AlT T) : AlT (zay ts T) := by
 intro s;unfold zay;split
 · exact Al.weak (Al.on ((hT (s.on 1)).bind (fun i s1 => al_must.bind (fun _ s2 => Al.ok_)))) (by omega)
 split
 · exact Al.weak (Al.on ((zoe hT _ _ (s.on 1)).bind (fun x s1 => al_newY))) (by omega)
 split
 · exact Al.weak (Al.on al_newY) (by omega)
 · trivial
theorem zGb (x : Vr) (s : St) : Al s (itemM ts x s) := by
 unfold itemM;split
 · exact al_on
 refine Al.weak (Al.bind ?_ (fun _ s1 => ?_)) (by omega)
 · split
   · exact Al.ok_
   · exact al_must.weak (by omega)
 split
 · exact Al.weak (Al.on (al_must.bind (fun _ s2 => Al.ok_))) (by omega)
 · exact (al_own.bind (fun n s2 => Al.ok_)).weak (by omega)
theorem zst (hT : AlT T) : ∀ (f : Nat) (x : Vr) (r : List Vr) (s : St), Al s (zaq ts T f x r s) := by
 intro f
 induction f with
 | zero => intro x r s; trivial
 | succ f ih =>
  intro x r s;unfold zaq;refine Al.weak ((zGb x s).bind (fun y s1 => ?_)) (by omega);split
  · refine Al.weak (al_newY.bind (fun i s2 => ?_)) (by omega)
    split
    · exact Al.ok_
    · exact (ih _ _ s2).weak (by omega)
  · split
    · exact Al.weak (Al.on (ih _ _ (s1.on 1))) (by omega)
    · exact Al.weak ((zmv hT s1).bind (fun i s2 => ih _ _ s2)) (by omega)
theorem zB7 (hT : AlT T) : AlT (zak ts T) := by
 intro s;unfold zak;split
 · unfold zbp
   exact Al.weak (Al.on (zst hT _ _ _ (s.on 1))) (by omega)
 · exact zmv hT s
theorem zka : ∀ f, AlT (typeM ts f) := by
 intro f
 induction f with
 | zero => intro s; trivial
 | succ f ih =>
  intro s;unfold typeM;split
  · trivial
  refine Al.moved (s1 := s.up) (Al.weak ((zB7 ih s.up).bind (fun i s1 => ?_)) (by omega)) rfl rfl rfl;split
  · refine Al.weak (Al.on ((ih (s1.on 1)).bind (fun j s2 => al_newY.bind (fun l s3 => ?_)))) (by omega)
    exact zJw _
  · exact zJw _
theorem zwn (hE : AlT E) (hY : AlT T) (s : St) : Al s (zas ts E T s) := by
 unfold zas;refine Al.weak (Al.on ((hE (s.on 1)).bind (fun i s1 => ?_))) (by omega);split
 · exact al_on.weak (by omega)
 refine Al.weak (al_must.bind (fun _ s2 => (hY s2).bind (fun j s3 => ?_))) (by omega);split
 · exact Al.weak (Al.on ((hY (s3.on 1)).bind (fun l s4 => al_must.bind (fun _ s5 => al_newT)))) (by omega)
 · exact Al.weak (al_must.bind (fun _ s5 => al_newT)) (by omega)
theorem zGn (hE : AlT E) (hY : AlT T) : AlT (atomM ts E T) := by
 intro s;unfold atomM;split
 · exact zwn hE hY s
 split
 · unfold zbu
   exact Al.weak (Al.on ((zoe hE _ _ (s.on 1)).bind (fun x s1 => al_newT))) (by omega)
 split
 · exact Al.weak (Al.on al_newT) (by omega)
 · trivial
theorem zBv : ∀ (f left : Nat) (s : St), Al s (postL ts f left s) := by
 intro f
 induction f with
 | zero => intro left s; trivial
 | succ f ih =>
  intro left s;unfold postL;split
  · exact Al.weak (Al.on (al_token.bind (fun t s1 => al_newT.bind (fun i s2 => ih i s2)))) (by omega)
  · exact Al.ok_
theorem zuq (hE : AlT E) (hY : AlT T) : AlT (postM ts E T) := fun s => ((zGn hE hY s).bind (fun i s1 => zBv _ i s1)).weak (by omega)
theorem zud (hE : AlT E) (hY : AlT T) : AlT (unitM ts E T) := by
 intro s;unfold unitM;split
 · exact Al.weak (Al.on ((zuq hE hY (s.on 1)).bind (fun i s1 => al_newT))) (by omega)
 · exact zuq hE hY s
theorem zzf (hE : AlT E) (hY : AlT T) : ∀ (f left : Nat) (s : St), Al s (zat ts E T f left s) := by
 intro f
 induction f with
 | zero => intro left s; trivial
 | succ f ih =>
  intro left s;unfold zat;split
  · exact Al.weak ((zud hE hY s).bind (fun i s1 => al_newT.bind (fun j s2 => ih j s2))) (by omega)
  · exact Al.ok_
theorem zCw (hE : AlT E) (hY : AlT T) : AlT (zb0 ts E T) := fun s => ((zud hE hY s).bind (fun i s1 => zzf hE hY _ i s1)).weak (by omega)
theorem al_op (hP : AlT P) (left : Nat) (s : St) : Al s (opM ts P left s) := Al.weak (Al.on ((hP (s.on 1)).bind (fun i s1 => al_newT))) (by omega)
theorem zGz (hP : AlT P) (sg : List (List UInt8)) : ∀ (f left : Nat) (s : St), Al s (rowL ts P sg f left s) := by
 intro f
 induction f with
 | zero => intro left s; trivial
 | succ f ih =>
  intro left s;unfold rowL;split
  · exact Al.weak ((al_op hP left s).bind (fun i s1 => ih i s1)) (by omega)
  · exact Al.ok_
theorem zrv (hP : AlT P) (sg : List (List UInt8)) : AlT (rowM ts P sg) := fun s => ((hP s).bind (fun i s1 => zGz hP sg _ i s1)).weak (by omega)
theorem zu7 (hE : AlT E) (hY : AlT T) : AlT (joinM ts E T) := zrv (zrv (zrv (zCw hE hY) _) _) _
theorem zv4 (hE : AlT E) (hY : AlT T) : AlT (zad ts E T) := by
 intro s;refine Al.weak ((zu7 hE hY s).bind (fun i s1 => ?_)) (by omega);split
 · exact al_op (zu7 hE hY) i s1
 · exact Al.ok_
theorem zz1 (hE : AlT E) (o : Nat) : ∀ (f : Nat) (ns : List (List UInt8)) (ks : List Int) (s : St), Al s (zbz ts E o f ns ks s) := by
 intro f
 induction f with
 | zero => intro ns ks s; trivial
 | succ f ih =>
  intro ns ks s;unfold zbz;split
  · split
    · exact Al.weak (Al.on (al_must.bind (fun _ s1 => (hE s1).bind (fun i s2 => Al.ok_)))) (by omega)
    · exact Al.weak (Al.on (al_own.bind (fun x s1 => al_token.bind (fun t s2 => al_must.bind (fun _ s3 => (hE s3).bind (fun i s4 => ih _ _ s4)))))) (by omega)
  · exact Al.ok_
theorem zD3 (hE : AlT E) (hY : AlT T) : AlT (zba ts E T) := by
 intro s;unfold zba;split
 · unfold funM
   exact Al.weak (Al.on (al_token.bind (fun t s1 => al_must.bind (fun _ s2 => (hE s2).bind (fun i s3 => al_newT))))) (by omega)
 split
 · unfold letM
   dsimp only;split
   · exact Al.weak (Al.on (al_token.bind (fun t s1 => al_must.bind (fun _ s2 => (hE s2).bind (fun i s3 => al_must.bind (fun _ s4 => (hE s4).bind (fun j s5 => al_newT))))))) (by omega)
   · exact Al.weak (Al.on (al_token.bind (fun t s1 => al_must.bind (fun _ s2 => (hE s2).bind (fun i s3 => al_must.bind (fun _ s4 => (hE s4).bind (fun j s5 => al_newT))))))) (by omega)
 split
 · unfold zby
   exact Al.weak (Al.on ((hE (s.on 1)).bind (fun i s1 => al_must.bind (fun _ s2 => (hE s2).bind (fun j s3 => al_must.bind (fun _ s4 => (hE s4).bind (fun l s5 => al_newT))))))) (by omega)
 split
 · unfold zci
   exact Al.weak (Al.on ((hE (s.on 1)).bind (fun i s1 => al_must.bind (fun _ s2 => (zz1 hE _ _ _ _ s2).bind (fun x s3 => al_must.bind (fun _ s4 => al_newT)))))) (by omega)
 exact zv4 hE hY s
theorem zni : ∀ f, AlT (termM ts f) := by
 intro f
 induction f with
 | zero => intro s; trivial
 | succ f ih =>
  intro s;unfold termM;split
  · trivial
  refine Al.moved (s1 := s.up) (Al.weak ((zD3 ih (zka f) s.up).bind (fun i s1 => ?_)) (by omega)) rfl rfl rfl;exact zJw _
theorem zr8 (hY : AlT T) : ∀ (f : Nat) (s : St), Al s (zb7 ts T f s) := by
 intro f
 induction f with
 | zero => intro s; trivial
 | succ f ih =>
  intro s;unfold zb7;split
  · exact Al.weak (Al.on (al_token.bind (fun t s1 => al_must.bind (fun _ s2 => (hY s2).bind (fun i s3 => Al.moved (s1 := s3.addA ⟨bs t.2.1, (i : Int), (t.2.2 : Nat)⟩) (al_must.bind (fun _ s4 => ih s4)) rfl rfl rfl))))) (by omega)
  · exact Al.ok_
end
theorem zvc {ts : List Tk} {T : St → R3 Nat} (hT : AlT T) {f : Nat} {s s1 : St} (h : zb7 ts T f s = .ok () s1) (hl : s1.t3.length ≤ s.t3.length) : s1 = s ∧ isA ts s [[116, 121, 112, 101]] = false := by
 cases f with
 | zero => cases h
 | succ f =>
  unfold zb7 at h;split at h
  · exfalso
    obtain ⟨t, a1, h1, h⟩ := R3.bind_ok h;obtain ⟨_, a2, h2, h⟩ := R3.bind_ok h;obtain ⟨i, a3, h3, h⟩ := R3.bind_ok h;obtain ⟨_, a4, h4, h⟩ := R3.bind_ok h;have g1 := al_token (ts := ts) (kind := 2) (s := s.on 1);rw [h1] at g1;have g2 := al_must (ts := ts) (x := [61]) (s := a1);rw [h2] at g2;have g3 := hT a2;rw [h3] at g3;have g4 := al_must (ts := ts) (x := [59]) (s := a3.addA ⟨bs t.2.1, (i : Int), (t.2.2 : Nat)⟩);rw [h4] at g4;have g5 := zr8 (ts := ts) hT f a4;rw [h] at g5;simp only [Al, St.addA, zK5, zK2, zKc] at g1 g2 g3 g4 g5;have g0 : (s.on 1).t3.length = s.t3.length := rfl;omega
  · rename_i hn
    injection h with _ h
    exact ⟨h.symm, by simpa using hn⟩
theorem zea : ∀ (k p : Nat), (openT k p).length = k
 | 0, _ => rfl
 | k + 1, p => by show (openT k (p + 1)).length + 1 = _; rw [zea k (p + 1)]
theorem zmf : ∀ (k p : Nat), (ze1 k p).length = k + 1
 | 0, _ => rfl
 | k + 1, p => by show (ze1 k (p + 1)).length + 1 = _; rw [zmf k (p + 1)]
theorem zs4 : ∀ (k p j : Nat), j < k → (openT k p)[j]? = some (8, [40], p + j)
 | 0, _, _, h => by omega
 | k + 1, p, 0, _ => rfl
 | k + 1, p, j + 1, h => by
  show (openT k (p + 1))[j]? = _
  rw [zs4 k (p + 1) j (by omega), show p + 1 + j = p + (j + 1) by omega]
theorem zpf : ∀ (k p j : Nat), j < k → (ze1 k p)[j]? = some (8, [41], p + j)
 | 0, _, _, h => by omega
 | k + 1, p, 0, _ => rfl
 | k + 1, p, j + 1, h => by
  show (ze1 k (p + 1))[j]? = _
  rw [zpf k (p + 1) j (by omega), show p + 1 + j = p + (j + 1) by omega]
theorem zly : ∀ (k p : Nat), (ze1 k p)[k]? = some (0, [], p + k)
 | 0, _ => rfl
 | k + 1, p => by
  show (ze1 k (p + 1))[k]? = _
  rw [zly k (p + 1), show p + 1 + k = p + (k + 1) by omega]
def brkT (k : Nat) (init : List Tk) (p : Nat) : List Tk := openT k 0 ++ (init.map (shK k) ++ ze1 k p)
theorem zh0 {ts : List Tk} {k : Nat} {t : Tk} (h : ts[k]? = some t) : tkA ts k = t := by
 unfold tkA;rw [zK3, h]; rfl
section
variable {k p : Nat} {init : List Tk}
theorem zot {j : Nat} (h : j < k) : tkA (brkT k init p) j = (8, [40], j) := zh0 (by
 unfold brkT
 rw [zKm (by rw [zea]; exact h), zs4 k 0 j h, Nat.zero_add])
theorem zE4 {j : Nat} (h : j < init.length) : tkA (brkT k init p) (k + j) = shK k (init.getD j (0, [], 0)) := zh0 (by
 unfold brkT;rw [zKl (by rw [zea]; omega), zea, Nat.add_sub_cancel_left, zKm (by rw [zKd]; exact h), List.getElem?_map, zK1 h, zK3, zK1 h]
 rfl)
theorem zp4 {j : Nat} : (brkT k init p)[k + (init.length + j)]? = (ze1 k p)[j]? := by
 unfold brkT;rw [zKl (by rw [zea]; omega), zea, Nat.add_sub_cancel_left, zKl (by rw [zKd]; omega), zKd, Nat.add_sub_cancel_left]
theorem zm3 {j : Nat} (h : j < k) : tkA (brkT k init p) (k + (init.length + j)) = (8, [41], p + j) := zh0 (by rw [zp4, zpf k p j h])
theorem zrp : tkA (brkT k init p) (k + (init.length + k)) = (0, [], p + k) := zh0 (by rw [zp4, zly])
theorem zon {j : Nat} (h : j ≤ k) : Calm (tkA (brkT k init p) (k + (init.length + j))) := by
 rcases Nat.lt_or_ge j k with g | g
 · rw [zm3 g]; exact .inr ⟨rfl, rfl⟩
 · rw [show j = k by omega, zrp]; exact .inl rfl
theorem zrs : (brkT k init p).length = k + (init.length + (k + 1)) := by
 unfold brkT;rw [zK5, zK5, zea, zmf, zKd]
theorem zoj {e : Tk} : Alike (init ++ [e]) (brkT k init p) ⟨k, k, k⟩ False where
 tok := fun j hj => by
  rw [zK5, zK2, zKc] at hj;rw [zE4 (by omega)];unfold tkA;rw [zK3, zK3, zKm (by omega)]
 last := fun j hj => by
  rw [zK5, zK2, zKc] at hj;have := zon (k := k) (p := p) (init := init) (j := 0) (zK8 _);rw [show k + (init.length + 0) = k + j by omega] at this;exact ⟨this, fun h => h.elim⟩
 so := fun h => h.elim
theorem zAa (m : Nat) (hm : m ≤ k) (hm2 : m ≤ 256) {R : R3 Nat} (hR : termM (brkT k init p) (257 - m) ⟨m, m, [], [], [], []⟩ = R) : ∀ (d : Nat), d ≤ m →
 (∀ c q, R = .bad c q → termM (brkT k init p) (257 - (m - d)) ⟨m - d, m - d, [], [], [], []⟩ = .bad c q) ∧ (R = .un → termM (brkT k init p) (257 - (m - d)) ⟨m - d, m - d, [], [], [], []⟩ = .un) ∧
 (∀ i s1, m = k → R = .ok i s1 → s1.k = k + (init.length + 0) → s1.op = m → termM (brkT k init p) (257 - (m - d)) ⟨m - d, m - d, [], [], [], []⟩ = .ok i { s1 with k := k + (init.length + d), op := m - d }) := by
 intro d
 induction d with
 | zero =>
  intro _;rw [Nat.sub_zero];refine ⟨fun c q h => hR.trans h, fun h => hR.trans h, fun i s1 _ h h1 h2 => ?_⟩;rw [hR, h];obtain ⟨a, b, c, d, e, f⟩ := s1;dsimp only at h1 h2 ⊢;rw [h1, h2]
 | succ d ih =>
  intro hd;obtain ⟨i1, i2, i3⟩ := ih (by omega);have hj : tkA (brkT k init p) (m - (d + 1)) = (8, [40], m - (d + 1)) := zot (by omega);have e1 : 257 - (m - (d + 1)) = (257 - (m - d)) + 1 := by omega
  have e2 : ((⟨m - (d + 1), m - (d + 1), [], [], [], []⟩ : St).up.on 1) = ⟨m - d, m - d, [], [], [], []⟩ := by
   have : m - (d + 1) + 1 = m - d := by omega
   show (⟨m - (d + 1) + 1, m - (d + 1) + 1, [], [], [], []⟩ : St) = _
   rw [this]
  rw [e1];refine ⟨fun c q h => zqb (by show m - (d + 1) ≠ 256; omega) hj (by rw [e2]; exact i1 c q h), fun h => zt5 (by show m - (d + 1) ≠ 256; omega) hj (by rw [e2]; exact i2 h), fun i s1 hmk h h1 h2 => ?_⟩;have h3 := i3 i s1 hmk h h1 h2
  have hc : Calm (tkA (brkT k init p) (k + (init.length + d) + 1)) := by
   have := zon (k := k) (p := p) (init := init) (j := d + 1) (by omega);rwa [show k + (init.length + (d + 1)) = k + (init.length + d) + 1 by omega] at this
  rw [zEm (by rw [zrs]; omega) (by show m - (d + 1) ≠ 256; omega) hj (by rw [e2]; exact h3) (zm3 (k := k) (j := d) (by omega)) hc];show R3.ok i (⟨k + (init.length + d) + 1, m - d - 1, s1.t1, s1.t2, s1.t3, s1.m⟩ : St) = _
  rw [show k + (init.length + d) + 1 = k + (init.length + (d + 1)) by omega, show m - d - 1 = m - (d + 1) by omega]
end
theorem zJr {b : List UInt8} {t : TreeD} {k : Nat} (hb : b.length ≤ 300) (hk : k ≤ 300) (h : textR b = .ok t) (ha : t.aliases = []) :
 (0 < k ∧ ∃ q, textR (brk k b) = .error (5, q)) ∨ (k < 256 ∧ textR (brk k b) = .ok (t.sh k)) := by
 unfold textR readM at h
 cases hA : lexA b with
 | error e => rw [hA] at h; cases h
 | ok ts =>
  rw [hA] at h;dsimp only at h;have hT := zc8 hA (by omega);obtain ⟨init, rfl, hi1, _, _⟩ := zgj _ b 0 ts (zJw _) (zfn hA).1;have hU := zC5 (k := k) (by omega) (by omega) hA;obtain ⟨p, hp⟩ : ∃ p, k + b.length + 2 = p := ⟨_, rfl⟩;rw [hp] at hU;have hU : lexA (brk k b) = .ok (brkT k init p) := hU;have hT2 : TsOk (brkT k init p) := zc8 hU (by rw [ztc]; omega);have hg2 := zgg (q := False) hT2 257 (.inr (zJw _)) St.zero hT2.pos rfl
  cases hM : textM (init ++ [(0, [], 0 + b.length)]) 257 St.zero with
  | un => rw [hM] at h; cases h
  | bad c q => rw [hM] at h; cases h
  | ok u s' =>
   rw [hM] at h;dsimp only at h;split at h
   case isFalse => cases h
   rename_i hend
   injection h with h
   unfold textM at hM;obtain ⟨_, s1, hM1, hM2⟩ := R3.bind_ok hM;obtain ⟨i, s2, hM3, hM4⟩ := R3.bind_ok hM2;injection hM4 with _ hM4
   subst hM4;have g := zni (ts := init ++ [(0, [], 0 + b.length)]) 257 s1;rw [hM3] at g;have h30 : s2.t3 = [] := by rw [← h] at ha; exact ha
   have g0 : s1.t3.length ≤ 0 := by have g' : s1.t3.length ≤ s2.t3.length := g; rw [h30] at g'; exact g'
   obtain ⟨e1, hty⟩ := zvc (zka 257) hM1 (by show s1.t3.length ≤ 0; exact g0);subst e1;have hgo := znl (q := False) hT 257 0 (.inr ⟨by omega, by omega⟩) St.zero hT.pos rfl;rw [hM3] at hgo
   have hs2 : s2.k = init.length := by
    have h1 := hgo.2.1;rw [zK5, zK2, zKc] at h1;rcases Nat.lt_or_ge s2.k init.length with g | g
    · exfalso
      have : tkA (init ++ [(0, [], 0 + b.length)]) s2.k = init[s2.k] := zh0 (by rw [zKm g, zK1 g]);rw [this] at hend;exact (hi1 _ (zKe g)).1.1 hend
    · omega
   have hal : zb7 (brkT k init p) (typeM (brkT k init p) 257) (brkT k init p).length St.zero = .ok () St.zero := by
    obtain ⟨n, hn⟩ : ∃ n, (brkT k init p).length = n + 1 := ⟨k + (init.length + k), by rw [zrs]; omega⟩;rw [hn];unfold zb7;refine if_neg ?_;rcases Nat.eq_zero_or_pos k with h0 | h0
    · subst h0
      have hF := zoj (k := 0) (p := p) (init := init) (e := (0, [], 0 + b.length));have := zbm hF hT (s := St.zero) hT.pos (l := [[116, 121, 112, 101]]) rfl;have e : St.zero.sh ⟨0, 0, 0⟩ = St.zero := rfl;rw [e, hty] at this;rw [this]; decide
    · have : tkA (brkT k init p) 0 = (8, [40], 0) := zot h0
      show ¬ za2 (tkA (brkT k init p) 0) _ = true
      rw [this];exact fun h => Bool.false_ne_true h
   have htx : textM (brkT k init p) 257 St.zero = (termM (brkT k init p) 257 St.zero).bind fun _ s2 => .ok () s2 := by
    unfold textM;rw [hal]; rfl
   have hfin : ∀ c q, termM (brkT k init p) 257 St.zero = .bad c q → textR (brk k b) = .error (c, q) := fun c q hc => by
    unfold textR readM;rw [hU];dsimp only;rw [htx, hc]; rfl
   have hun : termM (brkT k init p) 257 St.zero ≠ .un := fun hc => by
    rw [htx, hc] at hg2; exact hg2
   rcases Nat.lt_or_ge k 256 with hk2 | hk2
   · have hF := zoj (k := k) (p := p) (init := init) (e := (0, [], 0 + b.length))
     have hsim := zqf hF hT 257 (257 - k) 0 (by show 0 + k ≤ 256; omega) St.zero hT.pos rfl;have ez : St.zero.sh ⟨k, k, k⟩ = ⟨k, k, [], [], [], []⟩ := rfl;rw [ez, hM3] at hsim;have hlev := fun (R : R3 Nat) hR => zAa (k := k) (p := p) (init := init) k (zJw _) (by omega) (R := R) hR k (zJw _);rw [Nat.sub_self, Nat.sub_zero] at hlev;rcases hsim with hs | ⟨h0, q, hs⟩ | ⟨_, _, hs⟩
     · exact absurd ((hlev _ hs).2.1 rfl) hun
     · exact .inl ⟨h0, q, hfin 5 q ((hlev _ hs).1 5 q rfl)⟩
     · refine .inr ⟨hk2, ?_⟩
       have hop : s2.op = 0 := hgo.2.2;have h3 := (hlev _ hs).2.2 i (s2.sh ⟨k, k, k⟩) rfl rfl (by show k + s2.k = _; rw [hs2]; rfl) (by show k + s2.op = k; omega);unfold textR readM;rw [hU];dsimp only;rw [htx];have h3' : termM (brkT k init p) 257 St.zero = _ := h3;rw [h3'];show (if (tkA (brkT k init p) (k + (init.length + k))).1 = 0 then _ else _) = _
       rw [zrp, if_pos rfl, ← h];rfl
   · refine .inl ⟨by omega, ?_⟩
     have hR : termM (brkT k init p) (257 - 256) ⟨256, 256, [], [], [], []⟩ = .bad 5 (posA (brkT k init p) ⟨256, 256, [], [], [], []⟩) := by
      show termM (brkT k init p) (0 + 1) _ = _
      unfold termM;exact if_pos rfl
     have hlev := zAa (k := k) (p := p) (init := init) 256 hk2 (zJw _) hR 256 (zJw _);exact ⟨_, hfin 5 _ (hlev.1 5 _ rfl)⟩
end Go.Proofs.YtidmeodmkcomlaaGreatDoor
