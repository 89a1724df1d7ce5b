/- What the lexer says of the tokens of any text; parse.Text and parse.Type at any text. Variants that are open: a stack of types of the call's own, whose rows -/
import Derived.Test.YtidmeodmkcomlaaGreatDoorK42
set_option linter.unusedSimpArgs false
set_option linter.unusedVariables false
namespace Go.Proofs.YtidmeodmkcomlaaGreatDoor
open Go Go.Proofs Go.RowKit
theorem zE1 : ∀ (l : List UInt8) (n : Nat), n ≤ decV n l := by
 intro l
 induction l with
 | nil => intro n; exact zJw _
 | cons c r ih =>
  intro n;have := ih (n * 10 + (c.toNat - 48));show n ≤ decV (n * 10 + (c.toNat - 48)) r
  omega
theorem zGk {M : Nat} (hM : 9223372036854775807 ≤ M) : ∀ (l : List UInt8) (n : Nat), (∀ c ∈ l, digB c = true) → decV n l ≤ 9223372036854775807 → Lib.parseUintM M n l = .ok (decV n l) := by
 intro l
 induction l with
 | nil => intro n _ _; rfl
 | cons c r ih =>
  intro n hd hv;have hv' : decV (n * 10 + (c.toNat - 48)) r ≤ 9223372036854775807 := hv;have hc := hd c (List.mem_cons_self ..);simp only [digB, zK6, zKq] at hc;have hg := zE1 r (n * 10 + (c.toNat - 48));show (if 48 ≤ c.toNat ∧ c.toNat ≤ 57 then _ else _) = _
  rw [if_pos hc, if_neg (by omega), if_neg (by omega)];exact ih _ (fun x hx => hd x (List.mem_cons_of_mem _ hx)) hv'
theorem zJ0 {t : List UInt8} (h0 : t ≠ []) (hd : ∀ c ∈ t, digB c = true) (hv : decV 0 t ≤ 9223372036854775807) : Lib.parseIntB 64 t = .ok (decV 0 t : Int) := by
 cases t with
 | nil => exact absurd rfl h0
 | cons c r =>
  have hc := hd c (List.mem_cons_self ..);simp only [digB, zK6, zKq] at hc;unfold Lib.parseIntB;dsimp only;rw [if_neg (by omega)];unfold Lib.parseUintB;rw [if_neg (by simp), zGk (by decide) _ _ hd hv];dsimp only;rw [if_neg (by intro h; have := h.2; simp at this; omega), if_neg (by intro h; have := h.1; omega), if_neg (by omega)]
theorem zGu : ∀ (l : List UInt8), ∀ c ∈ l.take (digN l), digB c = true := by
 intro l c hc;unfold digN at hc
 cases l with
 | nil => simp at hc
 | cons d r =>
  by_cases hd : digB d = true
  · rw [zdg _ _ _ _ hd] at hc
    rw [List.take_succ_cons] at hc;rcases List.mem_cons.1 hc with rfl | hc
    · exact hd
    · have : r.take (r.takeWhile digB).length = r.takeWhile digB := (List.prefix_iff_eq_take.1 (List.takeWhile_prefix digB)).symm
      rw [this] at hc;have := List.all_takeWhile (p := digB) (l := r);exact List.all_eq_true.1 this c hc
  · rw [zdz _ _ _ _ (by simpa using hd)] at hc
    simp at hc
theorem ztu {l : List UInt8} (h : intN l ≠ 0) : Lib.parseIntB 64 (l.take (intN l)) = .ok (decV 0 (l.take (intN l)) : Int) := by
 unfold intN at h ⊢;split
 · rename_i hc
   rw [if_pos hc] at h;refine zJ0 (fun e => ?_) (zGu l) hc.2;have := congrArg List.length e;rw [zKi, zKc] at this;have h2 : digN l ≤ l.length := zcl _ _ _;omega
 · rename_i hc
   rw [if_neg hc] at h;exact absurd rfl h
theorem zHj {l : List UInt8} (hl : leadB l = true) (hf : fltB l = true) : ∃ v, zdd (bs (l.take 18)) = some v := by
 have h18 : 18 ≤ l.length := by
  simp only [fltB, zK6, zKq] at hf;exact hf.1
 have hz : (bs (l.take 18)).size = 18 := by rw [zcm, zKi]; omega
 have hh : headB (bs (l.take 18)) = true := by
  simp only [leadB, zKq] at hl;unfold headB;rw [hz, ByteArray.toList_eq, ByteArray.toList_eq]
  have e : ((bs (l.take 18)).extract 0 2).data.toList = [102, 39] := by
   simp only [bs, ByteArray.data_extract, List.extract_toArray];rw [List.extract_eq_take_drop];simp [List.take_take, hl]
  rw [e];decide
 have : (zdd (bs (l.take 18))).isSome = true := by
  unfold zdd;rw [if_pos ⟨hh, hz⟩, zkz];simp only [bs];rw [List.drop_take];simp only [fltB, zK6, zKq] at hf;exact hf.2
 exact Option.isSome_iff_exists.1 this
theorem zky : ∀ (n : Nat) (l : List UInt8) (x : List UInt8 × Nat), l.length ≤ n → strV l = some x → x.1.length ≤ l.length
 | 0, l, x, h, hs => by
  obtain rfl : l = [] := List.length_eq_zero_iff.1 (by omega);rw [zck] at hs;cases hs
 | n + 1, [], x, h, hs => by rw [zck] at hs; cases hs
 | n + 1, c :: r, x, h, hs => by
  simp only [zK2] at h;rw [zbd] at hs;split at hs
  · cases hs; simp
  · split at hs
    · cases hs
    · split at hs
      · match r, hs, h with
        | [], hs, _ => cases hs
        | d :: r', hs, h =>
         dsimp only at hs
         cases he : escB d with
         | none => rw [he] at hs; cases hs
         | some e =>
          rw [he] at hs;simp only [zKg] at hs;obtain ⟨y, hy, rfl⟩ := hs;have := zky n r' y (by simp at h; omega) hy;simp only [zK2]; omega
      · simp only [zKg] at hs
        obtain ⟨y, hy, rfl⟩ := hs;have := zky n r y (by omega) hy;simp only [zK2]; omega
def TkOk (t : Tk) : Prop := t.1 ≠ 0 ∧ (t.1 = 4 → ∃ v, Lib.parseIntB 64 t.2.1 = .ok v) ∧ (t.1 = 5 → ∃ v, zdd (bs t.2.1) = some v)
theorem zAj {l : List UInt8} {t : Nat × List UInt8} {n : Nat} (h : tok l = some (t, n)) (p : Nat) : TkOk (t.1, t.2, p) ∧ t.2.length ≤ l.length := by
 have hle := zg2 h
 cases l with
 | nil => simp [tok] at h
 | cons c r =>
  rw [tok] at h;split at h
  · rename_i hl
    split at h
    · rename_i hf
      simp only [zKt, zKu] at h;obtain ⟨rfl, rfl⟩ := h;exact ⟨⟨by simp, fun e => by simp at e, fun _ => zHj hl hf⟩, by simp only [zKi]; omega⟩
    · cases h
  split at h
  · simp only [zKg, zKu] at h
    obtain ⟨x, hx, rfl, _⟩ := h;refine ⟨⟨by simp, fun e => by simp at e, fun e => by simp at e⟩, ?_⟩;have := zky _ _ _ (zJw _) hx;simp only [zK2];omega
  split at h
  · split at h
    · cases h
    · simp only [zKt, zKu] at h
      obtain ⟨rfl, _⟩ := h;exact ⟨⟨by simp, fun e => by simp at e, fun e => by simp at e⟩, by simp only [zKi, zK2]; omega⟩
  split at h
  · split at h
    · cases h
    · rename_i h0
      simp only [zKt, zKu] at h;obtain ⟨rfl, _⟩ := h;exact ⟨⟨by simp, fun _ => ⟨_, ztu h0⟩, fun e => by simp at e⟩, by simp only [zKi]; omega⟩
  split at h
  · simp only [zKt, zKu] at h
    obtain ⟨rfl, _⟩ := h;refine ⟨⟨by dsimp only; split <;> decide, fun e => ?_, fun e => ?_⟩, by simp only [zKi]; omega⟩
    · dsimp only at e; split at e <;> omega
    · dsimp only at e; split at e <;> omega
  split at h
  · simp only [zKt, zKu] at h
    obtain ⟨rfl, _⟩ := h;exact ⟨⟨by simp, fun e => by simp at e, fun e => by simp at e⟩, by simp only [zKi]; omega⟩
  split at h
  · cases h
  · simp only [zKt, zKu] at h
    obtain ⟨rfl, _⟩ := h;exact ⟨⟨by simp, fun e => by simp at e, fun e => by simp at e⟩, by simp only [zKi]; omega⟩
theorem zgj : ∀ (n : Nat) (l : List UInt8) (k : Nat) (ts : List Tk), l.length ≤ n → lexR l k = .ok ts →
 ∃ init : List Tk, ts = init ++ [(0, [], k + l.length)] ∧ (∀ t ∈ init, TkOk t ∧ t.2.1.length ≤ l.length ∧ k ≤ t.2.2 ∧ t.2.2 < k + l.length) ∧ init.Pairwise (fun a b => a.2.2 < b.2.2) ∧ init.length ≤ l.length := by
 intro n
 induction n with
 | zero =>
  intro l k ts hl h;obtain rfl : l = [] := List.length_eq_zero_iff.1 (by omega);rw [zaz [] k (by simp)] at h;injection h with h
  subst h;exact ⟨[], by simp [zax], fun t ht => by simp at ht, List.Pairwise.nil, zJw _⟩
 | succ n ih =>
  intro l k ts hl h;have hsk := zh8 l.length l (zJw _);by_cases h0 : l.drop (skipN l) = []
  · rw [zaz l k h0] at h
    injection h with h
    subst h;have : l.length ≤ skipN l := by simpa using h0
    have : skipN l = l.length := by omega
    exact ⟨[], by rw [this]; rfl, fun t ht => by simp at ht, List.Pairwise.nil, zK8 _⟩
  · cases ht : tok (l.drop (skipN l)) with
    | none => rw [zcd l k h0 ht] at h; cases h
    | some x =>
     obtain ⟨t, m⟩ := x;rw [zbw l k t m ht] at h;have hle := zg2 ht;rw [zKa] at hle;have hok := zAj ht (k + skipN l);rw [zKa] at hok
     cases hr : lexR (l.drop (skipN l + m)) (k + skipN l + m) with
     | error e => rw [hr] at h; cases h
     | ok us =>
      rw [hr] at h;injection h with h
      subst h;obtain ⟨init, rfl, h1, h2, h3⟩ := ih _ _ _ (by rw [zKa]; omega) hr;rw [zKa] at h1 h3;have hp : k + skipN l + m + (l.drop (skipN l + m)).length = k + l.length := by rw [zKa]; omega
      refine ⟨(t.1, t.2, k + skipN l) :: init, by rw [hp]; rfl, fun y hy => ?_, List.Pairwise.cons (fun y hy => ?_) h2, by simp only [zK2]; omega⟩
      · rcases List.mem_cons.1 hy with rfl | hy
        · exact ⟨hok.1, by have := hok.2; dsimp only; omega, by dsimp only; omega, by dsimp only; omega⟩
        · obtain ⟨q1, q2, q3, q4⟩ := h1 y hy
          exact ⟨q1, by omega, by omega, by omega⟩
      · obtain ⟨_, _, q3, _⟩ := h1 y hy
        dsimp only;omega
theorem zfn {l : List UInt8} {ts : List Tk} (h : lexA l = .ok ts) : lexR l 0 = .ok ts ∧ l.length ≤ 1048576 := by
 unfold lexA at h;split at h
 · cases h
 split at h
 · cases h
 split at h
 · rename_i e; injection h with h; subst h; exact ⟨e, by omega⟩
 · cases h
theorem ziu {l : List UInt8} {c q : Nat} (h : lexA l = .error (c, q)) : c ≠ 0 := by
 unfold lexA at h;split at h
 · injection h with h; injection h with h _; omega
 split at h
 · injection h with h; injection h with h _; omega
 split at h
 · cases h
 · injection h with h; injection h with h _; omega
theorem zh2 {init : List Tk} {z : Tk} {k : Nat} (h : k < init.length) : tkA (init ++ [z]) k ∈ init := by
 unfold tkA;rw [zK3, zKm h, zK1 h];exact zKe h
theorem zfq {init : List Tk} {z : Tk} : tkA (init ++ [z]) init.length = z := by
 unfold tkA;rw [zK3, zKl (zJw _)];simp
theorem zio {ts : List Tk} {k : Nat} (h : ts.length ≤ k) : tkA ts k = (0, [], 0) := by
 unfold tkA;rw [zK3, List.getElem?_eq_none h];rfl
theorem zc8 {l : List UInt8} {ts : List Tk} (h : lexA l = .ok ts) (hl : l.length ≤ 16000) : TsOk ts := by
 obtain ⟨init, rfl, h1, h2, h3⟩ := zgj _ l 0 ts (zJw _) (zfn h).1
 have hall : ∀ k, TkOk (tkA (init ++ [(0, [], 0 + l.length)]) k) ∨ (tkA (init ++ [(0, [], 0 + l.length)]) k = (0, [], 0 + l.length) ∨ tkA (init ++ [(0, [], 0 + l.length)]) k = (0, [], 0)) := fun k => by
  rcases Nat.lt_trichotomy k init.length with q | q | q
  · exact .inl (h1 _ (zh2 q)).1
  · subst q; exact .inr (.inl zfq)
  · exact .inr (.inr (zio (by simp; omega)))
 refine ⟨by simp, ?_, fun k => ?_, fun k e => ?_, fun k e => ?_, fun k => ?_, by simp only [zK5, zK2, zKc]; omega⟩
 · rw [show (init ++ [((0 : Nat), ([] : List UInt8), 0 + l.length)]).length - 1 = init.length by simp, zfq]
 · rcases Nat.lt_or_ge k init.length with q | q
   · have := (h1 _ (zh2 (z := (0, [], 0 + l.length)) q)).2.1; omega
   · rcases hall k with a | a | a
     · rcases Nat.lt_or_ge k (init.length + 1) with q2 | q2
       · obtain rfl : k = init.length := by omega
         rw [zfq]; exact zK8 _
       · rw [zio (by simp; omega)]; exact zK8 _
     · rw [a]; exact zK8 _
     · rw [a]; exact zK8 _
 · rcases hall k with a | a | a
   · exact a.2.1 e
   · rw [a] at e; cases e
   · rw [a] at e; cases e
 · rcases hall k with a | a | a
   · exact a.2.2 e
   · rw [a] at e; cases e
   · rw [a] at e; cases e
 · rcases Nat.lt_trichotomy k init.length with q | q | q
   · have := (h1 _ (zh2 (z := (0, [], 0 + l.length)) q)).2.2.2; omega
   · subst q; rw [zfq]; show 0 + l.length ≤ _; omega
   · rw [zio (by simp; omega)]; exact zK8 _
theorem zJ1 {l : List UInt8} {ts : List Tk} (h : lexA l = .ok ts) {i j : Nat} (hij : i < j) (hj : j < ts.length) : (tkA ts i).2.2 < (tkA ts j).2.2 := by
 obtain ⟨init, rfl, h1, h2, h3⟩ := zgj _ l 0 ts (zJw _) (zfn h).1;simp only [zK5, zK2, zKc] at hj;rcases Nat.lt_or_ge j init.length with q | q
 · unfold tkA
   rw [zK3, zK3, zKm q, zKm (by omega), zK1 q, zK1 (show i < init.length by omega)];exact List.pairwise_iff_getElem.1 h2 i j (by omega) q hij
 · obtain rfl : j = init.length := by omega
   rw [zfq];exact (h1 _ (zh2 (z := (0, [], 0 + l.length)) hij)).2.2.2
def readM (M : List Tk → St → R3 Unit) (l : List UInt8) : Except (Nat × Nat) TreeD :=
 match lexA l with
 | .error e => .error e
 | .ok ts => match M ts St.zero with
  | .ok _ s' => if (tkA ts s'.k).1 = 0 then .ok ⟨s'.t1, s'.t2, s'.t3⟩ else .error (4, (tkA ts s'.k).2.2)
  | .bad e p => .error (e, p)
  | .un => .error (0, 0)
def typeR (l : List UInt8) : Except (Nat × Nat) TreeD := readM (fun ts s => (typeM ts 257 s).bind fun _ s1 => R3.ok () s1) l
def zfo (w : World) (r : Except (Nat × Nat) TreeD) (e : Ending) (w' : World) : Prop :=
 match r with
 | .ok t => ∃ p', e = .returned (.tuple #[treeV t p', .agg #[.int .i64 0, .int .i64 0, .string ⟨#[]⟩]]) ∧ TreeAt (fun b => w.heap.size ≤ b ∧ b < w'.heap.size) w' t p' ∧ Below w.heap.size w w'
 | .error (c, q) => e = .returned (.tuple #[.agg #[.slice none 0 0, .slice none 0 0, .slice none 0 0], zao c q]) ∧ Below w.heap.size w w'
theorem zzm (hV : ∀ ts, TsOk ts → ∀ T : St → R3 Nat, Rule3 ts 21 T → Prog3 ts T → VRule ts T) (l : List UInt8) (hs : l.length ≤ 16000) (a : Option Addr) (len cap : Nat) (w : World) (hl : l.length = len) (hEnv : Env w) (hI : TextAt w.heap.size w (.slice a len cap) l) :
 Calls Tryz.prog 10 #[.slice a len cap] w (zfo w (typeR l)) := by
 unfold typeR readM zfo
 cases hA : lexA l with
 | error e =>
  obtain ⟨c, q⟩ := e;exact znk a len cap w hl hEnv hI (fun W hE hI2 => zAz hA (ziu hA) a len cap W hl hE hI2)
 | ok ts =>
  have hT := zc8 hA hs;have hR : Rule0 ts 20 (fun s => (typeM ts 257 s).bind fun _ s1 => R3.ok () s1) := zxd (zjo hT (hV ts hT) 257);have hlen : ts.length ≤ 2097152 := by have := hT.few; omega
  have hg : Go3 False ts 1 St.zero ((typeM ts 257 St.zero).bind fun _ s1 => R3.ok () s1) := (zjv (q := False) hT 257 0 (.inr ⟨by decide, by decide⟩) St.zero hT.pos rfl).bind (d2 := 0) (fun i s1 a b c => Go3.ok_ b);dsimp only
  cases hM : ((typeM ts 257 St.zero).bind fun _ s1 => R3.ok () s1) with
  | un => rw [hM] at hg; exact hg.elim
  | bad c q => exact znk a len cap w hl hEnv hI (fun W hE hI2 => zAq hA hT hlen _ hR hM a len cap W hl hE hI2)
  | ok u s' =>
   rw [hM] at hg;dsimp only;by_cases hE : (tkA ts s'.k).1 = 0
   · rw [if_pos hE]
     exact zGp hA hT hlen _ hR hM hE hg.2.1 a len cap w hl hEnv hI
   · rw [if_neg hE]
     exact znk a len cap w hl hEnv hI (fun W hE2 hI2 => zAn rfl hA hT hlen _ hR hM hE hg.2.1 a len cap W hl hE2 hI2)
abbrev El := TypD × Ptr2
abbrev n3 (x : El) : Value := .slice x.2.a3 x.1.names.length x.2.c3
abbrev n4 (x : El) : Value := .slice x.2.a4 x.1.kids.length x.2.c4
def AparV (a b : Value) : Prop := ∀ g, a.ownBlock = some g → b.ownBlock ≠ some g
theorem AparV.symm {a b : Value} (h : AparV a b) : AparV b a := fun g h1 h2 => h g h2 h1
theorem AparV.keep {a b : Value} (h : AparV a b) : a.ownBlock = none ∨ a.ownBlock ≠ b.ownBlock := by
 cases e : a.ownBlock with
 | none => exact .inl rfl
 | some g => exact .inr (fun e2 => h g e e2.symm)
theorem AparV.nil {b : Value} : AparV (.slice none 0 0) b := fun _ e => zcc e
structure Stk (w : World) (G : Nat → Prop) (v : Value) (els : List El) : Prop where
 row : w.ownsRow 0 40 6 v els.length (zar els)
 gv : ∀ g, v.ownBlock = some g → G g
 r3 : ∀ x ∈ els, w.ownsRow 0 9 1 (n3 x) x.1.names.length (x.1.names.map .string)
 r4 : ∀ x ∈ els, w.ownsRow 0 3 1 (n4 x) x.1.kids.length (x.1.kids.map iv)
 g3 : ∀ x ∈ els, ∀ g, (n3 x).ownBlock = some g → G g
 g4 : ∀ x ∈ els, ∀ g, (n4 x).ownBlock = some g → G g
 d3 : els.Pairwise (fun x y => AparV (n3 x) (n3 y))
 d4 : els.Pairwise (fun x y => AparV (n4 x) (n4 y))
section
variable {B : PE} {G G' : Nat → Prop} {w w1 w2 w3 w4 : World} {s s' : St} {v : Value} {els pre post : List El} {x : El}
theorem Stk.call (o : Stk w1 G v els) (h : AftO B G w s w1) (k : Aft (B.with G) w1 s' w2) : Stk w2 G v els :=
 ⟨h.row k o.row o.gv, o.gv, fun x hx => h.row k (o.r3 x hx) (o.g3 x hx), fun x hx => h.row k (o.r4 x hx) (o.g4 x hx), o.g3, o.g4, o.d3, o.d4⟩
theorem Stk.below (o : Stk w1 G v els) (hb : Below w1.heap.size w1 w2) : Stk w2 G v els :=
 ⟨zaj o.row hb, o.gv, fun x hx => zaj (o.r3 x hx) hb, fun x hx => zaj (o.r4 x hx) hb, o.g3, o.g4, o.d3, o.d4⟩
theorem Stk.mono (o : Stk w1 G v els) (h : ∀ b, G b → G' b) : Stk w1 G' v els :=
 ⟨o.row, fun g e => h _ (o.gv g e), o.r3, o.r4, fun x hx g e => h _ (o.g3 x hx g e), fun x hx g e => h _ (o.g4 x hx g e), o.d3, o.d4⟩
theorem ze9 : ∀ (l : List El), (zar l).length = l.length * 6
 | [] => rfl
 | x :: r => by
  show (za4 x.1 x.2 ++ zar r).length = _
  rw [zK5, ze9 r];simp only [za4, zK2, zKc];omega
theorem zet (a b : List El) : zar (a ++ b) = zar a ++ zar b := by simp [zar]
theorem zbs (pre post : List El) (x : El) {j : Nat} (hj : j < 6) : (zar (pre ++ x :: post))[pre.length * 6 + j]? = (za4 x.1 x.2)[j]? := by
 rw [zet, zKl (by rw [ze9]; omega), ze9];rw [show pre.length * 6 + j - pre.length * 6 = j by omega];show (za4 x.1 x.2 ++ zar post)[j]? = _
 rw [zKm (by simp [za4]; omega)]
theorem zhr (pre post : List El) (x y : El) {j : Nat} {u : Value} (hj : j < 6) (hy : za4 y.1 y.2 = (za4 x.1 x.2).set j u) : (zar (pre ++ x :: post)).set (pre.length * 6 + j) u = zar (pre ++ y :: post) := by
 rw [zet, zet, List.set_append_right _ _ (by rw [ze9]; omega), ze9];rw [show pre.length * 6 + j - pre.length * 6 = j by omega];show zar pre ++ (za4 x.1 x.2 ++ zar post).set j u = zar pre ++ (za4 y.1 y.2 ++ zar post)
 rw [List.set_append_left _ _ (by simp [za4]; omega), hy]
theorem zpv {w : World} {e : TypeId} {k n : Nat} {v : Value} {xs : List Value} (h : w.ownsRow 0 e k v n xs) (hn : 0 < n) : ∃ b c, v = .slice (some ⟨b, 0, none⟩) n c := by
 rcases h.2 with ⟨_, e⟩ | ⟨g, cap, cur, e, _⟩
 · omega
 · exact ⟨g, cap, e⟩
theorem zeb {w : World} {e : TypeId} {k n b c : Nat} {xs : List Value} (h : w.ownsRow 0 e k (.slice (some ⟨b, 0, none⟩) n c) n xs) : ∀ j u, xs[j]? = some u → w.cell? ⟨b, j, none⟩ = some u := fun j u hu => by
 have := h.cells (g := b) rfl j u hu;rwa [zdo, Nat.zero_add] at this
theorem zfr {w : World} {e : TypeId} {k n b c : Nat} {xs : List Value} (h : w.ownsRow 0 e k (.slice (some ⟨b, 0, none⟩) n c) n xs) : ∃ cur : Array Value, Blk w b e cur ∧ n ≤ c ∧ c ≤ maxLen ∧ cur.size = c * k ∧ cur.toList.take (n * k) = xs := by
 rcases h.2 with ⟨e, _⟩ | ⟨g, cap, cur, e, _, hh, h1, h2, h3, h4⟩
 · cases e
 · injection e with e1 _ e3
   injection e1 with e1
   injection e1 with e1 _
   subst e1;subst e3;exact ⟨cur, hh, h1, h2, h3, h4⟩
theorem zfd {w : World} {e : TypeId} {k n b c : Nat} {xs : List Value} (h : w.ownsRow 0 e k (.slice (some ⟨b, 0, none⟩) n c) n xs) (j : Nat) : w.frozen? ⟨b, j, none⟩ = false := by
 obtain ⟨cur, hb, _⟩ := zfr h;exact hb.frozen j
theorem znc {w : World} {e : TypeId} {k n b c : Nat} {xs : List Value} (h : w.ownsRow 0 e k (.slice (some ⟨b, 0, none⟩) n c) n xs) (j : Nat) (u : Value) : (w.setCell ⟨b, j, none⟩ u).ownsRow 0 e k (.slice (some ⟨b, 0, none⟩) n c) n (xs.set j u) := by
 obtain ⟨cur, hb, h1, h2, h3, h4⟩ := zfr h;refine ⟨by rw [List.length_set]; exact h.1, .inr ⟨b, c, cur.setIfInBounds j u, rfl, zK8 _, hb.set_ j u, h1, h2, by simpa using h3, ?_⟩⟩;rw [← h4];simp [List.take_set]
theorem zEd {w : World} {e : TypeId} {k n m b c : Nat} {xs : List Value} (h : w.ownsRow 0 e k (.slice (some ⟨b, 0, none⟩) n c) n xs) (hm : m ≤ n) : w.ownsRow 0 e k (.slice (some ⟨b, 0, none⟩) m c) m (xs.take (m * k)) := by
 obtain ⟨cur, hb, h1, h2, h3, h4⟩ := zfr h;have hle : m * k ≤ n * k := Nat.mul_le_mul_right k hm;refine ⟨by rw [zKi, h.1]; omega, .inr ⟨b, c, cur, rfl, zK8 _, hb, by omega, h2, h3, ?_⟩⟩;rw [← h4, List.take_take, Nat.min_eq_left hle]
theorem Stk.cell {b n c : Nat} (o : Stk w1 G (.slice (some ⟨b, 0, none⟩) n c) (pre ++ x :: post)) (hn : n = (pre ++ x :: post).length) {j : Nat} (hj : j < 6) {u : Value} (hu : (za4 x.1 x.2)[j]? = some u) : w1.cell? ⟨b, pre.length * 6 + j, none⟩ = some u := by
 subst hn;exact zeb o.row _ _ ((zbs pre post x hj).trans hu)
theorem zi7 {R : El → El → Prop} {a c : List El} {x y : El} (h : (a ++ x :: c).Pairwise R) (h1 : ∀ z ∈ a, R z x → R z y) (h2 : ∀ z ∈ c, R x z → R y z) : (a ++ y :: c).Pairwise R := by
 rw [List.pairwise_append, List.pairwise_cons] at h ⊢;obtain ⟨p1, ⟨p2, p3⟩, p4⟩ := h;refine ⟨p1, ⟨fun z hz => h2 z hz (p2 z hz), p3⟩, fun z hz u hu => ?_⟩;rcases List.mem_cons.1 hu with rfl | hu
 · exact h1 z hz (p4 z hz x (List.mem_cons_self ..))
 · exact p4 z hz u (List.mem_cons_of_mem _ hu)
theorem zf0 {a c : List El} {x y z : El} (h : z ∈ a ++ y :: c) : z = y ∨ z ∈ a ++ x :: c := by
 rcases List.mem_append.1 h with h | h
 · exact .inr (List.mem_append_left _ h)
 · rcases List.mem_cons.1 h with rfl | h
   · exact .inl rfl
   · exact .inr (List.mem_append_right _ (List.mem_cons_of_mem _ h))
theorem zaw {a c : List El} {x : El} : x ∈ a ++ x :: c := List.mem_append_right _ (List.mem_cons_self ..)
theorem zhm {f : El → Value} {a c : List El} {x z : El} (h : (a ++ x :: c).Pairwise (fun x y => AparV (f x) (f y))) : (z ∈ a → AparV (f z) (f x)) ∧ (z ∈ c → AparV (f x) (f z)) := by
 rw [List.pairwise_append, List.pairwise_cons] at h;exact ⟨fun hz => h.2.2 z hz x (List.mem_cons_self ..), fun hz => h.2.1.1 z hz⟩
theorem Stk.open_ {b n c : Nat} (h : AftO B G w s w1) (hbw : B.base ≤ w.heap.size) (o : Stk w1 G (.slice (some ⟨b, 0, none⟩) n c) (pre ++ x :: post)) (hn : n = (pre ++ x :: post).length) (q : Bool) :
 AftO B G w s (w1.setCell ⟨b, pre.length * 6 + 5, none⟩ (.bool q)) ∧ Stk (w1.setCell ⟨b, pre.length * 6 + 5, none⟩ (.bool q)) G (.slice (some ⟨b, 0, none⟩) n c) (pre ++ ({ x.1 with opn := q }, x.2) :: post) := by
 subst hn;have hgb : G b := o.gv b rfl;obtain ⟨cur, hb, _⟩ := zfr o.row;have hset : w1.grownBy (w1.setCell ⟨b, pre.length * 6 + 5, none⟩ (.bool q)) (some b) := za9 (zaf w1 (some b)) (.inl rfl) _;have hr := znc o.row (pre.length * 6 + 5) (.bool q);rw [zhr pre post x ({ x.1 with opn := q }, x.2) (by decide) rfl] at hr;refine ⟨h.set hgb _ _ hbw, by simpa using hr, o.gv, fun z hz => ?_, fun z hz => ?_, fun z hz => ?_, fun z hz => ?_, zi7 o.d3 (fun _ _ h => h) (fun _ _ h => h), zi7 o.d4 (fun _ _ h => h) (fun _ _ h => h)⟩
 · rcases zf0 (x := x) hz with rfl | hz
   · have := o.r3 x zaw; exact this.kept hset (.inr (za3 this hb (by decide)))
   · have := o.r3 z hz; exact this.kept hset (.inr (za3 this hb (by decide)))
 · rcases zf0 (x := x) hz with rfl | hz
   · have := o.r4 x zaw; exact this.kept hset (.inr (za3 this hb (by decide)))
   · have := o.r4 z hz; exact this.kept hset (.inr (za3 this hb (by decide)))
 · rcases zf0 (x := x) hz with rfl | hz
   · exact o.g3 x zaw
   · exact o.g3 z hz
 · rcases zf0 (x := x) hz with rfl | hz
   · exact o.g4 x zaw
   · exact o.g4 z hz
end
section
variable {B : PE} {G G' : Nat → Prop} {w w1 w2 w3 w4 : World} {s s' : St} {els pre post : List El} {x : El} {b n c : Nat}
theorem Stk.names (h : AftO B G w s w2) (hbw : B.base ≤ w.heap.size) (o : Stk w2 G (.slice (some ⟨b, 0, none⟩) n c) (pre ++ x :: post)) (hn : n = (pre ++ x :: post).length) (hb : Below w2.heap.size w2 w3) {u : ByteArray} {A : Option Addr} {d : Nat}
 (hown : w4.ownsRow 0 9 1 (.slice A (x.1.names.length + 1) d) (x.1.names.length + 1) (x.1.names.map .string ++ [.string u])) (hg : w3.grownBy w4 (n3 x).ownBlock) (hl : (Value.slice A (x.1.names.length + 1) d).ownBlock = (n3 x).ownBlock ∨ (Value.slice A (x.1.names.length + 1) d).ownBlock = some w3.heap.size) :
 ∃ G' : Nat → Prop, AftO B G' w s (w4.setCell ⟨b, pre.length * 6 + 3, none⟩ (.slice A (x.1.names.length + 1) d)) ∧ Stk (w4.setCell ⟨b, pre.length * 6 + 3, none⟩ (.slice A (x.1.names.length + 1) d)) G' (.slice (some ⟨b, 0, none⟩) n c) (pre ++ ({ x.1 with names := x.1.names ++ [u] }, { x.2 with a3 := A, c3 := d }) :: post) := by
 subst hn;have o3 := o.below hb;have h3 := h.below hb;have h4 := h3.app hbw (o.g3 x zaw) hg hl (zb8 hown);obtain ⟨cur, hcb, _⟩ := zfr o3.row;have hne : (n3 x).ownBlock ≠ some b := za3 (o3.r3 x zaw) hcb (by decide);have h5 := h4.set (.inl (o.gv b rfl)) (pre.length * 6 + 3) (.slice A (x.1.names.length + 1) d) hbw;have hset : w4.grownBy (w4.setCell ⟨b, pre.length * 6 + 3, none⟩ (.slice A (x.1.names.length + 1) d)) (some b) := za9 (zaf w4 (some b)) (.inl rfl) _;have hc4 : Blk w4 b 40 cur := hcb.grown hg (fun e => hne e.symm);have hr4 : w4.ownsRow 0 40 6 (.slice (some ⟨b, 0, none⟩) (pre ++ x :: post).length c) (pre ++ x :: post).length (zar (pre ++ x :: post)) := o3.row.kept hg (.inr (fun e => hne e.symm));have hr := znc hr4 (pre.length * 6 + 3) (.slice A (x.1.names.length + 1) d);rw [zhr pre post x ({ x.1 with names := x.1.names ++ [u] }, { x.2 with a3 := A, c3 := d }) (by decide) (by simp [za4])] at hr;have k : ∀ {e : TypeId} {m : Nat} {v : Value} {xs : List Value}, e ≠ 40 → w4.ownsRow 0 e 1 v m xs → (w4.setCell ⟨b, pre.length * 6 + 3, none⟩ (.slice A (x.1.names.length + 1) d)).ownsRow 0 e 1 v m xs := fun he hr => hr.kept hset (.inr (za3 hr hc4 he));have kx : AparV (n3 x) (n4 x) := fun g h1 h2 => zcp (o3.r3 x zaw) (o3.r4 x zaw) (by decide) g h1 h2;have hoth : ∀ z ∈ pre ++ x :: post, w4.ownsRow 0 3 1 (n4 z) z.1.kids.length (z.1.kids.map iv) := fun z hz => (o3.r4 z hz).kept hg (zbx (o3.r4 z hz) (o3.r3 x zaw) (by decide));have hme : ∀ z ∈ pre, w4.ownsRow 0 9 1 (n3 z) z.1.names.length (z.1.names.map .string) := fun z hz => (o3.r3 z (List.mem_append_left _ hz)).kept hg ((zhm (f := n3) o.d3).1 hz).keep;have hme2 : ∀ z ∈ post, w4.ownsRow 0 9 1 (n3 z) z.1.names.length (z.1.names.map .string) := fun z hz => (o3.r3 z (List.mem_append_right _ (List.mem_cons_of_mem _ hz))).kept hg ((zhm (f := n3) o.d3).2 hz).symm.keep
 have hfr : ∀ z ∈ pre ++ x :: post, AparV (n3 x) (n3 z) → AparV (Value.slice A (x.1.names.length + 1) d) (n3 z) := fun z hz hx g h1 h2 => by
  rcases hl with q | q
  · exact hx g (q ▸ h1) h2
  · rw [q] at h1
    injection h1 with h1
    have := zb8 (o3.r3 z hz) g h2;omega
 have e5 : (n3 (({ x.1 with names := x.1.names ++ [u] }, { x.2 with a3 := A, c3 := d }) : El)) = Value.slice A (x.1.names.length + 1) d := by simp [n3]
 refine ⟨_, h5, by simpa using hr, fun g e => .inl (o.gv g e), fun z hz => ?_, fun z hz => ?_, fun z hz => ?_, fun z hz => ?_, ?_, ?_⟩
 · rcases List.mem_append.1 hz with hz | hz
   · exact k (by decide) (hme z hz)
   · rcases List.mem_cons.1 hz with rfl | hz
     · rw [e5]
       exact (by simpa using k (by decide) hown)
     · exact k (by decide) (hme2 z hz)
 · rcases zf0 (x := x) hz with rfl | hz
   · exact k (by decide) (hoth x zaw)
   · exact k (by decide) (hoth z hz)
 · rcases List.mem_append.1 hz with hz | hz
   · exact fun g e => .inl (o.g3 z (List.mem_append_left _ hz) g e)
   · rcases List.mem_cons.1 hz with rfl | hz
     · rw [e5]
       exact fun g e => .inr e
     · exact fun g e => .inl (o.g3 z (List.mem_append_right _ (List.mem_cons_of_mem _ hz)) g e)
 · rcases zf0 (x := x) hz with rfl | hz
   · exact fun g e => .inl (o.g4 x zaw g e)
   · exact fun g e => .inl (o.g4 z hz g e)
 · exact zi7 o.d3 (fun z hz hx => by rw [e5]; exact (hfr z (List.mem_append_left _ hz) hx.symm).symm) (fun z hz hx => by rw [e5]; exact hfr z (List.mem_append_right _ (List.mem_cons_of_mem _ hz)) hx)
 · exact zi7 o.d4 (fun _ _ h => h) (fun _ _ h => h)
theorem Stk.kids (h : AftO B G w s w2) (hbw : B.base ≤ w.heap.size) (o : Stk w2 G (.slice (some ⟨b, 0, none⟩) n c) (pre ++ x :: post)) (hn : n = (pre ++ x :: post).length) (hb : Below w2.heap.size w2 w3) {u : Int} {A : Option Addr} {d : Nat}
 (hown : w4.ownsRow 0 3 1 (.slice A (x.1.kids.length + 1) d) (x.1.kids.length + 1) (x.1.kids.map iv ++ [iv u])) (hg : w3.grownBy w4 (n4 x).ownBlock) (hl : (Value.slice A (x.1.kids.length + 1) d).ownBlock = (n4 x).ownBlock ∨ (Value.slice A (x.1.kids.length + 1) d).ownBlock = some w3.heap.size) :
 ∃ G' : Nat → Prop, AftO B G' w s (w4.setCell ⟨b, pre.length * 6 + 4, none⟩ (.slice A (x.1.kids.length + 1) d)) ∧ Stk (w4.setCell ⟨b, pre.length * 6 + 4, none⟩ (.slice A (x.1.kids.length + 1) d)) G' (.slice (some ⟨b, 0, none⟩) n c) (pre ++ ({ x.1 with kids := x.1.kids ++ [u] }, { x.2 with a4 := A, c4 := d }) :: post) := by
 subst hn;have o3 := o.below hb;have h3 := h.below hb;have h4 := h3.app hbw (o.g4 x zaw) hg hl (zb8 hown);obtain ⟨cur, hcb, _⟩ := zfr o3.row;have hne : (n4 x).ownBlock ≠ some b := za3 (o3.r4 x zaw) hcb (by decide);have h5 := h4.set (.inl (o.gv b rfl)) (pre.length * 6 + 4) (.slice A (x.1.kids.length + 1) d) hbw;have hset : w4.grownBy (w4.setCell ⟨b, pre.length * 6 + 4, none⟩ (.slice A (x.1.kids.length + 1) d)) (some b) := za9 (zaf w4 (some b)) (.inl rfl) _;have hc4 : Blk w4 b 40 cur := hcb.grown hg (fun e => hne e.symm);have hr4 : w4.ownsRow 0 40 6 (.slice (some ⟨b, 0, none⟩) (pre ++ x :: post).length c) (pre ++ x :: post).length (zar (pre ++ x :: post)) := o3.row.kept hg (.inr (fun e => hne e.symm));have hr := znc hr4 (pre.length * 6 + 4) (.slice A (x.1.kids.length + 1) d);rw [zhr pre post x ({ x.1 with kids := x.1.kids ++ [u] }, { x.2 with a4 := A, c4 := d }) (by decide) (by simp [za4])] at hr;have k : ∀ {e : TypeId} {m : Nat} {v : Value} {xs : List Value}, e ≠ 40 → w4.ownsRow 0 e 1 v m xs → (w4.setCell ⟨b, pre.length * 6 + 4, none⟩ (.slice A (x.1.kids.length + 1) d)).ownsRow 0 e 1 v m xs := fun he hr => hr.kept hset (.inr (za3 hr hc4 he));have kx : AparV (n4 x) (n3 x) := fun g h1 h2 => zcp (o3.r4 x zaw) (o3.r3 x zaw) (by decide) g h1 h2;have hoth : ∀ z ∈ pre ++ x :: post, w4.ownsRow 0 9 1 (n3 z) z.1.names.length (z.1.names.map .string) := fun z hz => (o3.r3 z hz).kept hg (zbx (o3.r3 z hz) (o3.r4 x zaw) (by decide));have hme : ∀ z ∈ pre, w4.ownsRow 0 3 1 (n4 z) z.1.kids.length (z.1.kids.map iv) := fun z hz => (o3.r4 z (List.mem_append_left _ hz)).kept hg ((zhm (f := n4) o.d4).1 hz).keep;have hme2 : ∀ z ∈ post, w4.ownsRow 0 3 1 (n4 z) z.1.kids.length (z.1.kids.map iv) := fun z hz => (o3.r4 z (List.mem_append_right _ (List.mem_cons_of_mem _ hz))).kept hg ((zhm (f := n4) o.d4).2 hz).symm.keep
 have hfr : ∀ z ∈ pre ++ x :: post, AparV (n4 x) (n4 z) → AparV (Value.slice A (x.1.kids.length + 1) d) (n4 z) := fun z hz hx g h1 h2 => by
  rcases hl with q | q
  · exact hx g (q ▸ h1) h2
  · rw [q] at h1
    injection h1 with h1
    have := zb8 (o3.r4 z hz) g h2;omega
 have e5 : (n4 (({ x.1 with kids := x.1.kids ++ [u] }, { x.2 with a4 := A, c4 := d }) : El)) = Value.slice A (x.1.kids.length + 1) d := by simp [n4]
 refine ⟨_, h5, by simpa using hr, fun g e => .inl (o.gv g e), fun z hz => ?_, fun z hz => ?_, fun z hz => ?_, fun z hz => ?_, ?_, ?_⟩
 · rcases zf0 (x := x) hz with rfl | hz
   · exact k (by decide) (hoth x zaw)
   · exact k (by decide) (hoth z hz)
 · rcases List.mem_append.1 hz with hz | hz
   · exact k (by decide) (hme z hz)
   · rcases List.mem_cons.1 hz with rfl | hz
     · rw [e5]
       exact (by simpa using k (by decide) hown)
     · exact k (by decide) (hme2 z hz)
 · rcases zf0 (x := x) hz with rfl | hz
   · exact fun g e => .inl (o.g3 x zaw g e)
   · exact fun g e => .inl (o.g3 z hz g e)
 · rcases List.mem_append.1 hz with hz | hz
   · exact fun g e => .inl (o.g4 z (List.mem_append_left _ hz) g e)
   · rcases List.mem_cons.1 hz with rfl | hz
     · rw [e5]
       exact fun g e => .inr e
     · exact fun g e => .inl (o.g4 z (List.mem_append_right _ (List.mem_cons_of_mem _ hz)) g e)
 · exact zi7 o.d3 (fun _ _ h => h) (fun _ _ h => h)
 · exact zi7 o.d4 (fun z hz hx => by rw [e5]; exact (hfr z (List.mem_append_left _ hz) hx.symm).symm) (fun z hz hx => by rw [e5]; exact hfr z (List.mem_append_right _ (List.mem_cons_of_mem _ hz)) hx)
theorem Stk.pop (o : Stk w1 G (.slice (some ⟨b, 0, none⟩) n c) (pre ++ [x])) (hn : n = (pre ++ [x]).length) : Stk w1 G (.slice (some ⟨b, 0, none⟩) pre.length c) pre := by
 subst hn;have hr := zEd o.row (m := pre.length) (by simp)
 have e : (zar (pre ++ [x])).take (pre.length * 6) = zar pre := by
  rw [zet, ← ze9, List.take_left'];rfl
 rw [e] at hr;exact ⟨hr, o.gv, fun z hz => o.r3 z (List.mem_append_left _ hz), fun z hz => o.r4 z (List.mem_append_left _ hz), fun z hz => o.g3 z (List.mem_append_left _ hz), fun z hz => o.g4 z (List.mem_append_left _ hz), (List.pairwise_append.1 o.d3).1, (List.pairwise_append.1 o.d4).1⟩
theorem Stk.push {v v' : Value} (h : AftO B G w s w2) (hbw : B.base ≤ w.heap.size) (o : Stk w2 G v els) (hb : Below w2.heap.size w2 w3) (kind pos : Int) (name : ByteArray)
 (hown : w4.ownsRow 0 40 6 v' (els.length + 1) (zar els ++ za4 ⟨kind, pos, name, [], [], false⟩ ⟨none, 0, none, 0⟩)) (hg : w3.grownBy w4 v.ownBlock) (hl : v'.ownBlock = v.ownBlock ∨ v'.ownBlock = some w3.heap.size) :
 ∃ G' : Nat → Prop, AftO B G' w s w4 ∧ Stk w4 G' v' (els ++ [(⟨kind, pos, name, [], [], false⟩, ⟨none, 0, none, 0⟩)]) := by
 have o3 := o.below hb;have h4 := (h.below hb).app hbw o.gv hg hl (zb8 hown);refine ⟨_, h4, by rw [zet]; simpa [zar] using hown, fun g e => .inr e, fun z hz => ?_, fun z hz => ?_, fun z hz => ?_, fun z hz => ?_, ?_, ?_⟩
 · rcases List.mem_append.1 hz with hz | hz
   · exact (o3.r3 z hz).kept hg (zbx (o3.r3 z hz) o3.row (by decide))
   · simp only [zK7] at hz; subst hz; exact zdb _ _ _ _
 · rcases List.mem_append.1 hz with hz | hz
   · exact (o3.r4 z hz).kept hg (zbx (o3.r4 z hz) o3.row (by decide))
   · simp only [zK7] at hz; subst hz; exact zdb _ _ _ _
 · rcases List.mem_append.1 hz with hz | hz
   · exact fun g e => .inl (o.g3 z hz g e)
   · simp only [zK7] at hz; subst hz; exact fun g e => zcc e
 · rcases List.mem_append.1 hz with hz | hz
   · exact fun g e => .inl (o.g4 z hz g e)
   · simp only [zK7] at hz; subst hz; exact fun g e => zcc e
 · refine List.pairwise_append.2 ⟨o.d3, List.pairwise_singleton _ _, fun z _ y hy => ?_⟩
   simp only [zK7] at hy; subst hy;exact AparV.nil.symm
 · refine List.pairwise_append.2 ⟨o.d4, List.pairwise_singleton _ _, fun z _ y hy => ?_⟩
   simp only [zK7] at hy; subst hy;exact AparV.nil.symm
end
end Go.Proofs.YtidmeodmkcomlaaGreatDoor
