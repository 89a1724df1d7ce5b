/- A type by the document's rules, as a function of its tokens; it is the code's. -/
import Derived.Test.YtidmeodmkcomlaaGreatDoorK15
set_option linter.unusedSimpArgs false
set_option linter.unusedVariables false
namespace Go.Proofs.YtidmeodmkcomlaaGreatDoor
open Go Go.Proofs Go.RowKit
def zMf (ts : List Tk) (ns : List (List UInt8)) (kind : Nat) (s : St) : R3 (List UInt8) :=
 (zag ts kind s).bind fun t s' => if ns.contains t.2.1 = true then .bad 8 t.2.2 else .ok t.2.1 s'
section
variable (ts : List Tk)
def rowR (P : St → R3 Nat) : Nat → List (List UInt8) → List Int → St → R3 (List (List UInt8) × List Int)
 | 0, _, _, _ => .un
 | f + 1, ns, ks, s =>
  (zMf ts ns 1 s).bind fun x s1 => (mustM ts [58] s1).bind fun _ s2 => (P s2).bind fun i s3 =>
   if isA ts s3 [[44]] = true then rowR P f (ns ++ [x]) (ks ++ [(i : Int)]) (s3.on 1)
   else .ok (ns ++ [x], ks ++ [(i : Int)]) s3
def zM8 (S : St → R3 Nat) : Nat → List (List UInt8) → List Int → St → R3 (List (List UInt8) × List Int × Bool)
 | 0, _, _, _ => .un
 | f + 1, ns, ks, s =>
  if isA ts s [[46, 46]] = true then .ok (ns, ks, true) (s.on 1)
  else (zMf ts ns 3 s).bind fun x s1 => (S s1).bind fun i s2 =>
   if isA ts s2 [[124]] = true then zM8 S f (ns ++ [x]) (ks ++ [(i : Int)]) (s2.on 1)
   else .ok (ns ++ [x], ks ++ [(i : Int)], false) s2
def zLy (T : St → R3 Nat) : Nat → St → R3 Nat
 | 0, _ => .un
 | g + 1, s =>
  match zc0 (tkA ts s.k) with
  | some x => newY (s.on 1) x
  | none =>
   if isA ts s [[40]] = true then (T (s.on 1)).bind fun i s1 => (mustM ts [41] s1).bind fun _ s2 => .ok i s2
   else if isA ts s [[123]] = true then
    if isA ts (s.on 1) [[125]] = true then newY (s.on 2) ⟨8, (posA ts s : Nat), bs [], [], [], false⟩
    else (rowR ts T ts.length [] [] (s.on 1)).bind fun x s1 => (mustM ts [125] s1).bind fun _ s2 => newY s2 ⟨8, (posA ts s : Nat), bs [], bss x.1, x.2, false⟩
   else if isA ts s [[91]] = true then
    if isA ts (s.on 1) [[93]] = true then newY (s.on 2) ⟨9, (posA ts s : Nat), bs [], [], [], false⟩
    else (zM8 ts (zLy T g) ts.length [] [] (s.on 1)).bind fun x s1 => (mustM ts [93] s1).bind fun _ s2 => newY s2 ⟨9, (posA ts s : Nat), bs [], bss x.1, x.2.1, x.2.2⟩
   else .bad 4 (posA ts s)
def zM5 : Nat → St → R3 Nat
 | 0, _ => .un
 | f + 1, s =>
  if s.op = 256 then .bad 5 (posA ts s) else
  (zLy ts (zM5 f) ts.length s.up).bind fun i s1 =>
   if isA ts s1 [[45, 62]] = true then
    (zM5 f (s1.on 1)).bind fun j s2 => (newY s2 ⟨7, (posA ts s1 : Nat), bs [], [], [(i : Int), (j : Int)], false⟩).bind fun l s3 => .ok l s3.down
   else .ok i s1.down
end
def Eqv (a b : St) : Prop := a.k = b.k ∧ a.op = b.op ∧ a.t1 = b.t1 ∧ a.t2 = b.t2 ∧ a.t3 = b.t3
def Out {α : Type} (ts : List Tk) (s : St) : R3 α → R3 α → Prop
 | _, .un => True
 | .un, _ => True
 | .bad e p, .bad e' p' => e = e' ∧ p = p'
 | .ok i a, .ok j b => i = j ∧ Eqv a b ∧ s.k ≤ a.k ∧ a.k < ts.length ∧ (∀ x ∈ s.m, x ∈ a.m) ∧ (∀ x ∈ a.m, x ∈ s.m ∨ posA ts s ≤ x.1) ∧ (∀ x ∈ a.m, x.1 < posA ts a)
 | _, _ => False
def Ris (ts : List Tk) : Prop := ∀ i j, i < j → j < ts.length → (tkA ts i).2.2 < (tkA ts j).2.2
theorem Ris.le {ts : List Tk} (h : Ris ts) {i j : Nat} (hij : i ≤ j) (hj : j < ts.length) : (tkA ts i).2.2 ≤ (tkA ts j).2.2 := by
 rcases Nat.lt_or_ge i j with g | g
 · exact Nat.le_of_lt (h i j g hj)
 · rw [Nat.le_antisymm hij g]; exact zJw _
structure Beg (ts : List Tk) (a b : St) : Prop where
 e : Eqv a b
 k : a.k < ts.length
 m : ∀ x ∈ a.m, x.1 < posA ts a
structure Mid (ts : List Tk) (s a : St) : Prop where
 k : s.k ≤ a.k
 h : a.k < ts.length
 m1 : ∀ x ∈ s.m, x ∈ a.m
 m2 : ∀ x ∈ a.m, x ∈ s.m ∨ posA ts s ≤ x.1
section
variable {ts : List Tk} {α β : Type}
theorem Mid.rfl' {s : St} (h : s.k < ts.length) : Mid ts s s := ⟨zJw _, h, fun _ h => h, fun _ h => .inl h⟩
theorem Mid.on {s a : St} (h : Mid ts s a) (hk : a.k + 1 < ts.length) : Mid ts s (a.on 1) := ⟨Nat.le_succ_of_le h.k, hk, h.m1, h.m2⟩
theorem Mid.trans {s a c : St} (hR : Ris ts) (h : Mid ts s a) (g : Mid ts a c) : Mid ts s c := by
 refine ⟨zK4 h.k g.k, g.h, fun x hx => g.m1 x (h.m1 x hx), fun x hx => ?_⟩;rcases g.m2 x hx with q | q
 · exact h.m2 x q
 · exact .inr (zK4 (hR.le h.k h.h) q)
theorem zMn {s : St} (p : R3 α) : Out ts s .un p := by cases p <;> trivial
theorem zMq {s : St} (p : R3 α) : Out ts s p .un := by cases p <;> trivial
theorem Out.mid {s a : St} (hR : Ris ts) (h : Mid ts s a) {p p' : R3 α} (g : Out ts a p p') : Out ts s p p' := by
 cases p with
 | un => exact zMn _
 | bad e q => cases p' <;> exact g
 | ok i c =>
  cases p' with
  | un => exact zMq _
  | bad e' q' => exact g.elim
  | ok j b =>
   obtain ⟨g0, g1, g2, g3, g4, g5, g6⟩ := g;have := h.trans hR ⟨g2, g3, g4, g5⟩;exact ⟨g0, g1, this.k, g3, this.m1, this.m2, g6⟩
theorem Out.bind {s : St} {p p' : R3 α} {f g : α → St → R3 β} (h : Out ts s p p') (k : ∀ i a b, Beg ts a b → Mid ts s a → p = .ok i a → Out ts s (f i a) (g i b)) : Out ts s (p.bind f) (p'.bind g) := by
 cases p with
 | un => exact zMn _
 | bad e q =>
  cases p' with
  | un => trivial
  | bad e' q' => exact h
  | ok j b => exact h.elim
 | ok i a =>
  cases p' with
  | un => exact zMq _
  | bad e' q' => exact h.elim
  | ok j b =>
   obtain ⟨rfl, h1, h2, h3, h4, h5, h6⟩ := h;exact k i a b ⟨h1, h3, h6⟩ ⟨h2, h3, h4, h5⟩ rfl
theorem Beg.on {a b : St} (hT : TsOk ts) (hR : Ris ts) (h : Beg ts a b) (h0 : (tkA ts a.k).1 ≠ 0) : Beg ts (a.on 1) (b.on 1) := by
 have hk := hT.step h.k h0;obtain ⟨e1, e2, e3, e4, e5⟩ := h.e;exact ⟨⟨congrArg (· + 1) e1, e2, e3, e4, e5⟩, hk, fun x hx => Nat.lt_trans (h.m x hx) (hR a.k (a.k + 1) (Nat.lt_succ_self _) hk)⟩
theorem Beg.pos {a b : St} (h : Beg ts a b) : posA ts b = posA ts a := by show (tkA ts b.k).2.2 = _; rw [← h.e.1]
theorem Beg.is {a b : St} (h : Beg ts a b) (l : List (List UInt8)) : isA ts b l = isA ts a l := by show za2 (tkA ts b.k) l = _; rw [← h.e.1]
theorem Beg.tk {a b : St} (h : Beg ts a b) : tkA ts b.k = tkA ts a.k := by rw [← h.e.1]
theorem Beg.out {a b : St} (h : Beg ts a b) (i : α) : Out ts a (.ok i a) (.ok i b) := ⟨rfl, h.e, zJw _, h.k, fun _ h => h, fun _ h => .inl h, h.m⟩
theorem zMw {s : St} (e p : Nat) : Out ts s (.bad e p : R3 α) (.bad e p) := ⟨rfl, rfl⟩
theorem zNf {a b : St} (hT : TsOk ts) (hR : Ris ts) (h : Beg ts a b) (x : List UInt8) : Out ts a (mustM ts x a) (mustM ts x b) := by
 unfold mustM;rw [h.is, h.pos];split
 · rename_i hk
   exact ((h.on hT hR (za0 hk)).out _).mid hR ((Mid.rfl' h.k).on (hT.step h.k (za0 hk)))
 · exact zMw _ _
theorem zMs {a b : St} (h : Beg ts a b) (x : TypD) : Out ts a (newY a x) (newY b x) := by
 unfold newY;obtain ⟨e1, e2, e3, e4, e5⟩ := h.e;rw [← e4];split
 · exact ⟨rfl, ⟨e1, e2, e3, by show a.t2 ++ [x] = b.t2 ++ [x]; rw [e4], e5⟩, zJw _, h.k, fun _ h => h, fun _ h => .inl h, h.m⟩
 · exact zMw _ _
def Own (o : Nat) (ns : List (List UInt8)) (s : St) : Prop := ∀ n, (o, n) ∈ s.m ↔ n ∈ ns
theorem Own.more {o : Nat} {ns : List (List UInt8)} {s a : St} (h : Own o ns s) (h1 : ∀ x ∈ s.m, x ∈ a.m) (h2 : ∀ x ∈ a.m, x ∈ s.m ∨ posA ts s ≤ x.1) (ho : o < posA ts s) : Own o ns a := by
 intro n;refine ⟨fun hm => ?_, fun hm => h1 _ ((h n).2 hm)⟩;rcases h2 _ hm with q | q
 · exact (h n).1 q
 · exact absurd ho (Nat.not_lt.2 q)
theorem zPy {a b : St} (hT : TsOk ts) (hR : Ris ts) (h : Beg ts a b) {o kind : Nat} (h0 : kind ≠ 0) {ns : List (List UInt8)} (hO : Own o ns a) (ho : o < posA ts a) :
 match ownM ts o kind a, zMf ts ns kind b with
 | .ok x s, .ok y s' => x = y ∧ Beg ts s s' ∧ a.k < s.k ∧ Own o (ns ++ [x]) s ∧ (∀ x ∈ a.m, x ∈ s.m) ∧ (∀ p n, (p, n) ∈ s.m → p ≠ o → (p, n) ∈ a.m)
 | .bad e p, .bad e' p' => e = e' ∧ p = p'
 | _, _ => False := by
 unfold ownM zMf zag;rw [h.tk, h.pos];by_cases hk : (tkA ts a.k).1 = kind
 · rw [if_pos hk, if_pos hk]
   have hb := h.on hT hR (by omega)
   have hc : ∀ x : List UInt8, a.m.contains (o, x) = ns.contains x := by
    intro x;have := hO x;rw [← List.contains_iff_mem, ← List.contains_iff_mem] at this;cases hx : ns.contains x <;> cases hy : a.m.contains (o, x) <;> simp_all
   have hc := hc (tkA ts a.k).2.1
   show (match (if a.m.contains (o, (tkA ts a.k).2.1) = true then R3.bad 8 (tkA ts a.k).2.2 else R3.ok (tkA ts a.k).2.1 ((a.on 1).met (o, (tkA ts a.k).2.1))), (if ns.contains (tkA ts a.k).2.1 = true then R3.bad 8 (tkA ts a.k).2.2 else R3.ok (tkA ts a.k).2.1 (b.on 1)) with
    | .ok x s, .ok y s' => _ | .bad e p, .bad e' p' => _ | _, _ => _)
   rw [hc];cases ns.contains (tkA ts a.k).2.1
   · refine ⟨rfl, ⟨hb.e, hb.k, ?_⟩, Nat.lt_succ_self _, ?_, fun x hx => List.mem_cons_of_mem _ hx, ?_⟩
     · intro x hx
       rcases List.mem_cons.1 hx with rfl | hx
       · exact Nat.lt_trans ho (hR a.k (a.k + 1) (Nat.lt_succ_self _) hb.k)
       · exact hb.m x hx
     · intro n
       have := hO n;show (o, n) ∈ (o, (tkA ts a.k).2.1) :: a.m ↔ _
       rw [zKf, List.mem_append, this, zK7];constructor
       · rintro (q | q)
         · exact .inr (by injection q)
         · exact .inl q
       · rintro (q | q)
         · exact .inr q
         · exact .inl (by rw [q])
     · intro p n hx hp
       rcases List.mem_cons.1 hx with q | q
       · injection q with q _; exact absurd q hp
       · exact q
   · exact ⟨rfl, rfl⟩
 · rw [if_neg hk, if_neg hk]
   exact ⟨rfl, rfl⟩
theorem zO1 {s0 a b : St} (hT : TsOk ts) (hR : Ris ts) (h : Beg ts a b) (hM : Mid ts s0 a) {o kind : Nat} (h0 : kind ≠ 0) {ns : List (List UInt8)} (hO : Own o ns a) (ho : o < posA ts a) (hs : posA ts s0 ≤ o)
 {F G : List UInt8 → St → R3 β} (k : ∀ x s s', Beg ts s s' → Mid ts s0 s → o < posA ts s → Own o (ns ++ [x]) s → (∀ p l, p ≠ o → Own p l a → Own p l s) → a.k < s.k → Out ts s0 (F x s) (G x s')) :
 Out ts s0 ((ownM ts o kind a).bind F) ((zMf ts ns kind b).bind G) := by
 have := zPy hT hR h h0 hO ho
 cases hA : ownM ts o kind a with
 | un => exact zMn _
 | bad e p =>
  rw [hA] at this
  cases hB : zMf ts ns kind b with
  | un => trivial
  | bad e' p' => rw [hB] at this; exact this
  | ok x s' => rw [hB] at this; exact this.elim
 | ok x s =>
  rw [hA] at this
  cases hB : zMf ts ns kind b with
  | un => rw [hB] at this; exact this.elim
  | bad e' p' => rw [hB] at this; exact this.elim
  | ok y s' =>
   rw [hB] at this;obtain ⟨rfl, g1, g2, g3, g4, g5⟩ := this;refine k x s s' g1 ⟨zK4 hM.k (Nat.le_of_lt g2), g1.k, fun x hx => g4 x (hM.m1 x hx), fun y hy => ?_⟩ (Nat.lt_trans ho (hR _ _ g2 g1.k)) g3 (fun p l hp hl n => ⟨fun hm => (hl n).1 (g5 p n hm hp), fun hm => g4 _ ((hl n).2 hm)⟩) g2;obtain ⟨p, n⟩ := y;by_cases hp : p = o
   · exact .inr (hp ▸ hs)
   · exact hM.m2 _ (g5 p n hy hp)
def Alk (ts : List Tk) (T T' : St → R3 Nat) : Prop := ∀ a b, Beg ts a b → Out ts a (T a) (T' b)
theorem zMl {t : Tk} {w : List UInt8} (h : za2 t [w] = true) : (t.1 = 7 ∨ t.1 = 8) ∧ t.2.1 = w := by
 unfold za2 at h;simp at h
 exact ⟨h.1, h.2.symm⟩
theorem zMv {t : Tk} {w v : List UInt8} (h : za2 t [w] = true) (hv : v ≠ w) : za2 t [v] = false := by
 cases hs : za2 t [v] with
 | false => rfl
 | true => exact absurd ((zMl hs).2.symm.trans (zMl h).2) hv
theorem zN0 {t : Tk} {w : List UInt8} (h : za2 t [w] = true) (hw : wordsY.any (fun x => x == w) = false) : zc0 t = none := by
 obtain ⟨h1, h2⟩ := zMl h;unfold zc0;rw [if_neg (by omega), h2, hw, if_neg (by simp)]
theorem zPa {s0 : St} (hT : TsOk ts) (hR : Ris ts) {P P' : St → R3 Nat} (hP : Alk ts P P') (o : Nat) (hs : posA ts s0 ≤ o) : ∀ (f g : Nat) (ns : List (List UInt8)) (ks : List Int) (a b : St), Beg ts a b → Mid ts s0 a → Own o ns a → o < posA ts a →
 Out ts s0 (zbc ts P o [58] f ns ks a) ((rowR ts P' g ns ks b).bind fun x s1 => (mustM ts [125] s1).bind fun _ s2 => .ok x s2) := by
 intro f
 induction f with
 | zero => intro g ns ks a b h _ _ _; exact zMn _
 | succ f ih =>
  intro g ns ks a b h hM hO ho
  cases g with
  | zero => exact zMq _
  | succ g =>
   unfold zbc rowR;have assoc : ∀ {α β γ : Type} (p : R3 α) (f : α → St → R3 β) (g : β → St → R3 γ), (p.bind f).bind g = p.bind fun i s => (f i s).bind g := by intro α β γ p f g; cases p <;> rfl
   rw [assoc];refine zO1 hT hR h hM (by decide) hO ho hs (fun x s s' e m q1 q2 _ _ => ?_);rw [assoc];refine ((zNf hT hR e _).mid hR m).bind (fun _ s2 s2' e2 m2 h2 => ?_)
   have hO2 : Own o (ns ++ [x]) s2 ∧ o < posA ts s2 := by
    unfold mustM at h2;split at h2
    · injection h2 with _ h2
      subst h2;exact ⟨q2, Nat.lt_trans q1 (hR _ _ (Nat.lt_succ_self _) e2.k)⟩
    · cases h2
   rw [assoc];have hp := hP s2 s2' e2
   cases hA : P s2 with
   | un => exact zMn _
   | bad e p =>
    rw [hA] at hp
    cases hB : P' s2' with
    | un => trivial
    | bad e' p' => rw [hB] at hp; exact hp
    | ok i s => rw [hB] at hp; exact hp.elim
   | ok i s3 =>
    rw [hA] at hp
    cases hB : P' s2' with
    | un => exact zMq _
    | bad e' p' => rw [hB] at hp; exact hp.elim
    | ok j s3' =>
     rw [hB] at hp;obtain ⟨rfl, g1, g2, g3, g4, g5, g6⟩ := hp;have e3 : Beg ts s3 s3' := ⟨g1, g3, g6⟩;have m3 : Mid ts s0 s3 := m2.trans hR ⟨g2, g3, g4, g5⟩;have hO3 := hO2.1.more g4 g5 hO2.2;have ho3 : o < posA ts s3 := zJy hO2.2 (hR.le g2 g3)
     show Out ts s0 (if isA ts s3 [[125]] = true then R3.ok (ns ++ [x], ks ++ [(i : Int)]) (s3.on 1) else (mustM ts [44] s3).bind fun _ s4 => zbc ts P o [58] f (ns ++ [x]) (ks ++ [(i : Int)]) s4)
      ((if isA ts s3' [[44]] = true then rowR ts P' g (ns ++ [x]) (ks ++ [(i : Int)]) (s3'.on 1) else R3.ok (ns ++ [x], ks ++ [(i : Int)]) s3').bind fun x s1 => (mustM ts [125] s1).bind fun _ s2 => R3.ok x s2)
     rw [e3.is];by_cases hc : isA ts s3 [[125]] = true
     · rw [if_pos hc, if_neg (by rw [show isA ts s3 [[44]] = false from zMv hc (by decide)]; simp)]
       show Out ts s0 _ ((mustM ts [125] s3').bind fun _ s2 => R3.ok (ns ++ [x], ks ++ [(i : Int)]) s2)
       unfold mustM;rw [e3.is, if_pos hc];exact ((e3.on hT hR (za0 hc)).out _).mid hR (m3.on (hT.step e3.k (za0 hc)))
     · rw [if_neg hc]
       by_cases hd : isA ts s3 [[44]] = true
       · rw [if_pos hd]
         show Out ts s0 ((mustM ts [44] s3).bind _) _
         unfold mustM;rw [if_pos hd];exact ih g _ _ _ _ (e3.on hT hR (za0 hd)) (m3.on (hT.step e3.k (za0 hd))) hO3 (Nat.lt_trans ho3 (hR _ _ (Nat.lt_succ_self _) (hT.step e3.k (za0 hd))))
       · rw [if_neg hd]
         show Out ts s0 ((mustM ts [44] s3).bind _) ((mustM ts [125] s3').bind fun _ s2 => R3.ok (ns ++ [x], ks ++ [(i : Int)]) s2)
         unfold mustM;rw [if_neg hd, e3.is, if_neg hc, e3.pos];exact zMw _ _
theorem R3.assoc {γ : Type} (p : R3 α) (f : α → St → R3 β) (g : β → St → R3 γ) : (p.bind f).bind g = p.bind fun i s => (f i s).bind g := by cases p <;> rfl
theorem zNc (hT : TsOk ts) (hR : Ris ts) {T T' : St → R3 Nat} (hP : Alk ts T T') (g : Nat) {a b : St} (h : Beg ts a b) (hn : isA ts a [[91]] = false) : Out ts a (zay ts T a) (zLy ts T' g b) := by
 cases g with
 | zero => exact zMq _
 | succ g =>
  unfold zay zLy;rw [h.tk, h.is, h.is, h.is, h.pos, hn];by_cases h1 : isA ts a [[40]] = true
  · rw [if_pos h1, zN0 h1 (by decide)]
    dsimp only;rw [if_pos h1];have hk := hT.step h.k (za0 h1);refine ((hP _ _ (h.on hT hR (za0 h1))).mid hR ((Mid.rfl' h.k).on hk)).bind (fun i s s' e m _ => ?_);exact ((zNf hT hR e _).mid hR m).bind (fun _ s2 s2' e2 m2 _ => (e2.out i).mid hR m2)
  rw [if_neg h1];by_cases h2 : isA ts a [[123]] = true
  · rw [if_pos h2, zN0 h2 (by decide)]
    dsimp only;rw [if_neg h1, if_pos h2];have e1 := h.on hT hR (za0 h2);have hk := hT.step h.k (za0 h2);have m1 := (Mid.rfl' h.k).on hk;rw [e1.is];unfold zan;by_cases h3 : isA ts (a.on 1) [[125]] = true
    · rw [if_pos h3, if_pos h3]
      have hk2 := hT.step e1.k (za0 h3);exact (zMs (e1.on hT hR (za0 h3)) _).mid hR (m1.on hk2)
    · rw [if_neg h3, if_neg h3]
      have hO : Own (posA ts a) [] (a.on 1) := fun n => ⟨fun hm => absurd (h.m _ hm) (Nat.lt_irrefl _), fun hm => by cases hm⟩;have := zPa (s0 := a) hT hR hP (posA ts a) (zJw _) ts.length ts.length [] [] (a.on 1) (b.on 1) e1 m1 hO (hR _ _ (Nat.lt_succ_self _) hk);have := this.bind (f := fun x s1 => newY s1 ⟨8, (posA ts a : Nat), bs [], bss x.1, x.2, false⟩) (g := fun x s1 => newY s1 ⟨8, (posA ts a : Nat), bs [], bss x.1, x.2, false⟩) (fun x s s' e m _ => (zMs e _).mid hR m);rw [R3.assoc] at this;simp only [R3.assoc] at this;exact this
  rw [if_neg h2]
  cases hp : zc0 (tkA ts a.k) with
  | some x =>
   have h0 := zf8 hp;exact (zMs (h.on hT hR h0) x).mid hR ((Mid.rfl' h.k).on (hT.step h.k h0))
  | none =>
   dsimp only;rw [if_neg h1, if_neg h2, if_neg (by simp)];exact zMw _ _
def finR (ts : List Tk) (p : Nat) (A : R3 (List (List UInt8) × List Int × Bool)) : R3 Nat :=
 A.bind fun y s1 => (mustM ts [93] s1).bind fun _ s2 => newY s2 ⟨9, (p : Int), bs [], bss y.1, y.2.1, y.2.2⟩
def itemR (ts : List Tk) (S : St → R3 Nat) (l : Nat) (x : Vr) (b : St) : R3 Nat :=
 if x.2.2.length = 0 then if isA ts b [[93]] = true then newY (b.on 1) (vrD x false) else finR ts x.1 (zM8 ts S l x.2.1 x.2.2 b)
 else if isA ts b [[124]] = true then finR ts x.1 (zM8 ts S l x.2.1 x.2.2 (b.on 1)) else (mustM ts [93] b).bind fun _ s2 => newY s2 (vrD x false)
def contR (ts : List Tk) (T' : St → R3 Nat) : List (Vr × Nat × Nat) → R3 Nat → R3 Nat
 | [], A => A
 | (z, g, l) :: r, A => contR ts T' r (A.bind fun i s => itemR ts (zLy ts T' g) l (z.1, z.2.1, z.2.2 ++ [(i : Int)]) s)
theorem zMb {T' : St → R3 Nat} : ∀ (r : List (Vr × Nat × Nat)) (A : R3 α) (F : α → St → R3 Nat), contR ts T' r (A.bind F) = A.bind fun i s => contR ts T' r (F i s)
 | [], A, F => rfl
 | (z, g, l) :: r, A, F => by
  unfold contR;rw [R3.assoc, zMb r]
theorem zOk {S : St → R3 Nat} {l p : Nat} {ns : List (List UInt8)} {ks : List Int} {b : St} :
 finR ts p ((S b).bind fun i s2 => if isA ts s2 [[124]] = true then zM8 ts S l ns (ks ++ [(i : Int)]) (s2.on 1) else .ok (ns, ks ++ [(i : Int)], false) s2) = (S b).bind fun i s2 => itemR ts S l (p, ns, ks ++ [(i : Int)]) s2 := by
 unfold finR;rw [R3.assoc];congr 1
 funext i s2
 unfold itemR;have hn : ¬(ks ++ [(i : Int)]).length = 0 := by simp
 dsimp only;rw [if_neg hn];cases hd : isA ts s2 [[124]]
 · rfl
 · rfl
def Stq (s0 a : St) (ts : List Tk) : Nat → List (Vr × Nat × Nat) → Prop
 | _, [] => True
 | o, z :: r => Own z.1.1 z.1.2.1 a ∧ z.1.1 < o ∧ posA ts s0 ≤ z.1.1 ∧ Stq s0 a ts z.1.1 r
theorem Stq.more {s0 a c : St} : ∀ {r : List (Vr × Nat × Nat)} {o : Nat}, (∀ p l, p < o → Own p l a → Own p l c) → Stq s0 a ts o r → Stq s0 c ts o r
 | [], _, _, _ => trivial
 | _ :: _, _, h, ⟨h1, h2, h3, h4⟩ => ⟨h _ _ h2 h1, h2, h3, Stq.more (fun p l hp hl => h p l (Nat.lt_trans hp h2) hl) h4⟩
theorem Stq.on {s0 a : St} {r : List (Vr × Nat × Nat)} {o : Nat} (h : Stq s0 a ts o r) : Stq s0 (a.on 1) ts o r := Stq.more (a := a) (c := a.on 1) (fun _ _ _ h => h) h
theorem zO0 {s0 : St} (hT : TsOk ts) (hR : Ris ts) {T T' : St → R3 Nat} (hP : Alk ts T T') : ∀ (f : Nat) (x : Vr) (r : List (Vr × Nat × Nat)) (g l : Nat) (a b : St), Beg ts a b → Mid ts s0 a → Own x.1 x.2.1 a → x.1 < posA ts a → posA ts s0 ≤ x.1 → Stq s0 a ts x.1 r →
 Out ts s0 (zaq ts T f x (r.map (·.1)) a) (contR ts T' r (itemR ts (zLy ts T' g) l x b)) := by
 intro f
 induction f with
 | zero => intro x r g l a b _ _ _ _ _ _; exact zMn _
 | succ f ih =>
  intro x r g l a b h hM hO ho hs hS
  -- what follows the end
  have close : ∀ (X : TypD) (c d : St), Beg ts c d → Mid ts s0 c → Stq s0 c ts x.1 r → x.1 < posA ts c →
   Out ts s0 ((newY c X).bind fun i s2 => match r.map (·.1) with | [] => R3.ok i s2 | z :: r' => zaq ts T f (z.1, z.2.1, z.2.2 ++ [(i : Int)]) r' s2) (contR ts T' r (newY d X)) := by
   intro X c d e m hS hx
   cases r with
   | nil =>
    have := ((zMs e X).mid hR m).bind (f := fun i s2 => R3.ok i s2) (g := fun i s2 => R3.ok i s2) (fun i s s' e m _ => (e.out i).mid hR m);have h2 : (newY d X).bind (fun i s2 => R3.ok i s2) = newY d X := by cases newY d X <;> rfl
    rw [h2] at this;exact this
   | cons z r =>
    obtain ⟨z, g', l'⟩ := z;obtain ⟨q1, q2, q3, q4⟩ := hS;show Out ts s0 _ (contR ts T' r ((newY d X).bind _))
    rw [zMb];refine ((zMs e X).mid hR m).bind (fun i s s' e m hs => ?_)
    have : s.m = c.m ∧ s.k = c.k := by
     unfold newY at hs;split at hs
     · injection hs with _ hs; subst hs; exact ⟨rfl, rfl⟩
     · cases hs
    refine ih (z.1, z.2.1, z.2.2 ++ [(i : Int)]) r g' l' s s' e m (fun n => by rw [this.1]; exact q1 n) ?_ q3 (Stq.more (fun p l _ hp n => by rw [this.1]; exact hp n) q4);show z.1 < (tkA ts s.k).2.2
    rw [this.2];exact Nat.lt_trans q2 hx
  -- behind the sign between
  have body : ∀ (c d : St), Beg ts c d → Mid ts s0 c → Own x.1 x.2.1 c → x.1 < posA ts c → Stq s0 c ts x.1 r →
   Out ts s0 ((if isA ts c [[46, 46]] = true then (mustM ts [93] (c.on 1)).bind fun _ s2 => R3.ok (x, some true) s2 else (ownM ts x.1 3 c).bind fun n s2 => .ok ((x.1, x.2.1 ++ [n], x.2.2), none) s2).bind fun (y : Vr × Option Bool) s1 =>
    match y.2 with
    | some o => (newY s1 (vrD y.1 o)).bind fun i s2 => match r.map (·.1) with | [] => .ok i s2 | z :: r' => zaq ts T f (z.1, z.2.1, z.2.2 ++ [(i : Int)]) r' s2
    | none => if isA ts s1 [[91]] = true then zaq ts T f (posA ts s1, [], []) (y.1 :: r.map (·.1)) (s1.on 1) else (zay ts T s1).bind fun i s2 => zaq ts T f (y.1.1, y.1.2.1, y.1.2.2 ++ [(i : Int)]) (r.map (·.1)) s2)
    (contR ts T' r (finR ts x.1 (zM8 ts (zLy ts T' g) l x.2.1 x.2.2 d))) := by
   intro c d e m hO ho hS
   cases l with
   | zero =>
    have : contR ts T' r (finR ts x.1 (zM8 ts (zLy ts T' g) 0 x.2.1 x.2.2 d)) = .un := by
     have := zMb (ts := ts) (T' := T') r (.un : R3 Nat) (fun i s => .ok i s);exact this
    rw [this];exact zMq _
   | succ l =>
    unfold zM8;rw [e.is];by_cases h1 : isA ts c [[46, 46]] = true
    · rw [if_pos h1, if_pos h1, R3.assoc]
      have e1 := e.on hT hR (za0 h1);have hk := hT.step e.k (za0 h1);show Out ts s0 _ (contR ts T' r ((mustM ts [93] (d.on 1)).bind fun _ s2 => newY s2 _))
      rw [zMb];refine ((zNf hT hR e1 _).mid hR (m.on hk)).bind (fun _ s s' e2 m2 hs => ?_)
      have : s.m = c.m ∧ c.k < s.k := by
       unfold mustM at hs;split at hs
       · injection hs with _ hs; subst hs; exact ⟨rfl, Nat.lt_succ_of_lt (Nat.lt_succ_self _)⟩
       · cases hs
      exact close _ s s' e2 m2 (Stq.more (fun p l _ hp n => by rw [this.1]; exact hp n) hS) (Nat.lt_trans ho (hR _ _ this.2 e2.k))
    · rw [if_neg h1, if_neg h1, R3.assoc]
      have : finR ts x.1 ((zMf ts x.2.1 3 d).bind fun n s1 => (zLy ts T' g s1).bind fun i s2 => if isA ts s2 [[124]] = true then zM8 ts (zLy ts T' g) l (x.2.1 ++ [n]) (x.2.2 ++ [(i : Int)]) (s2.on 1) else .ok (x.2.1 ++ [n], x.2.2 ++ [(i : Int)], false) s2)
       = (zMf ts x.2.1 3 d).bind fun n s1 => (zLy ts T' g s1).bind fun i s2 => itemR ts (zLy ts T' g) l (x.1, x.2.1 ++ [n], x.2.2 ++ [(i : Int)]) s2 := by
       unfold finR;rw [R3.assoc];congr 1
       funext n s1
       exact zOk
      rw [this, zMb];refine zO1 hT hR e m (by decide) hO ho hs (fun n s s' e2 m2 q1 q2 q3 q4 => ?_);have hS2 := Stq.more (c := s) (fun p l hp hl => q3 p l (Nat.ne_of_lt hp) hl) hS;show Out ts s0 (if isA ts s [[91]] = true then _ else _) _
      by_cases h2 : isA ts s [[91]] = true
      · rw [if_pos h2]
        cases g with
        | zero =>
         have : contR ts T' r ((zLy ts T' 0 s').bind fun i s2 => itemR ts (zLy ts T' 0) l (x.1, x.2.1 ++ [n], x.2.2 ++ [(i : Int)]) s2) = .un := zMb (ts := ts) (T' := T') r (.un : R3 Nat) (fun i s => .ok i s);rw [this];exact zMq _
        | succ g =>
         have e3 := e2.on hT hR (za0 h2);have hk := hT.step e2.k (za0 h2)
         have : zLy ts T' (g + 1) s' = itemR ts (zLy ts T' g) ts.length (posA ts s, [], []) (s'.on 1) := by
          conv => lhs; unfold zLy
          rw [e2.tk, zN0 h2 (by decide)];dsimp only;rw [e2.is, e2.is, e2.is, if_neg (by rw [show isA ts s [[40]] = false from zMv h2 (by decide)]; simp), if_neg (by rw [show isA ts s [[123]] = false from zMv h2 (by decide)]; simp), if_pos h2, e2.pos];rfl
         rw [this];exact ih (posA ts s, [], []) (((x.1, x.2.1 ++ [n], x.2.2), g + 1, l) :: r) g ts.length _ _ e3 (m2.on hk) (fun n => ⟨fun hm => absurd (e2.m _ hm) (Nat.lt_irrefl _), fun hm => by cases hm⟩) (hR _ _ (Nat.lt_succ_self _) hk) (zK4 hs (Nat.le_of_lt q1)) ⟨q2, q1, hs, hS2.on⟩
      · rw [if_neg h2, zMb]
        have hb := zNc hT hR hP g e2 (by simpa using h2);have hp := hb
        cases hA : zay ts T s with
        | un => exact zMn _
        | bad e p =>
         rw [hA] at hp
         cases hB : zLy ts T' g s' with
         | un => trivial
         | bad e' p' => rw [hB] at hp; exact hp
         | ok i s => rw [hB] at hp; exact hp.elim
        | ok i s3 =>
         rw [hA] at hp
         cases hB : zLy ts T' g s' with
         | un => exact zMq _
         | bad e' p' => rw [hB] at hp; exact hp.elim
         | ok j s3' =>
          rw [hB] at hp;obtain ⟨rfl, g1, g2, g3, g4, g5, g6⟩ := hp;exact ih (x.1, x.2.1 ++ [n], x.2.2 ++ [(i : Int)]) r g l s3 s3' ⟨g1, g3, g6⟩ (m2.trans hR ⟨g2, g3, g4, g5⟩) (q2.more g4 g5 q1) (zJy q1 (hR.le g2 g3)) hs (Stq.more (fun p l hp hl => hl.more g4 g5 (Nat.lt_trans hp q1)) hS2)
  unfold zaq itemM;unfold itemR;rw [h.is, h.is];by_cases hc : isA ts a [[93]] = true
  · rw [if_pos hc]
    have e1 := h.on hT hR (za0 hc);have hk := hT.step h.k (za0 hc);have hcl := close (vrD x false) _ _ e1 (hM.on hk) hS.on (Nat.lt_trans ho (hR _ _ (Nat.lt_succ_self _) hk));by_cases h0 : x.2.2.length = 0
    · rw [if_pos h0, if_pos hc]
      exact hcl
    · rw [if_neg h0, if_neg (by rw [show isA ts a [[124]] = false from zMv hc (by decide)]; simp)]
      unfold mustM;rw [h.is, if_pos hc];exact hcl
  · rw [if_neg hc]
    by_cases h0 : x.2.2.length = 0
    · rw [if_pos h0, if_pos h0, if_neg hc]
      exact body a b h hM hO ho hS
    · rw [if_neg h0, if_neg h0]
      unfold mustM;by_cases hd : isA ts a [[124]] = true
      · rw [if_pos hd, if_pos hd]
        have hk := hT.step h.k (za0 hd);exact body _ _ (h.on hT hR (za0 hd)) (hM.on hk) hO (Nat.lt_trans ho (hR _ _ (Nat.lt_succ_self _) hk)) hS.on
      · rw [if_neg hd, if_neg hd, h.is, if_neg hc, h.pos]
        have : contR ts T' r ((R3.bad 4 (posA ts a) : R3 Unit).bind fun _ s2 => newY s2 (vrD x false)) = .bad 4 (posA ts a) := by rw [zMb]; rfl
        rw [this];exact zMw _ _
theorem zOc (hT : TsOk ts) (hR : Ris ts) {T T' : St → R3 Nat} (hP : Alk ts T T') (g : Nat) {a b : St} (h : Beg ts a b) : Out ts a (zak ts T a) (zLy ts T' g b) := by
 cases hc : isA ts a [[91]] with
 | false =>
  unfold zak;rw [hc];exact zNc hT hR hP g h hc
 | true =>
  unfold zak;rw [hc, if_pos rfl]
  cases g with
  | zero => exact zMq _
  | succ g =>
   have e1 := h.on hT hR (za0 hc);have hk := hT.step h.k (za0 hc)
   have : zLy ts T' (g + 1) b = itemR ts (zLy ts T' g) ts.length (posA ts a, [], []) (b.on 1) := by
    conv => lhs; unfold zLy
    rw [h.tk, zN0 hc (by decide)];dsimp only;rw [h.is, h.is, h.is, if_neg (by rw [show isA ts a [[40]] = false from zMv hc (by decide)]; simp), if_neg (by rw [show isA ts a [[123]] = false from zMv hc (by decide)]; simp), if_pos hc, h.pos];rfl
   rw [this];exact zO0 (s0 := a) hT hR hP (2 * ts.length) (posA ts a, [], []) [] g ts.length _ _ e1 ((Mid.rfl' h.k).on hk) (fun n => ⟨fun hm => absurd (h.m _ hm) (Nat.lt_irrefl _), fun hm => by cases hm⟩) (hR _ _ (Nat.lt_succ_self _) hk) (zJw _) trivial
theorem Beg.up {a b : St} (h : Beg ts a b) : Beg ts a.up b.up := ⟨⟨h.e.1, congrArg (· + 1) h.e.2.1, h.e.2.2⟩, h.k, h.m⟩
theorem Beg.down {a b : St} (h : Beg ts a b) : Beg ts a.down b.down := ⟨⟨h.e.1, congrArg (· - 1) h.e.2.1, h.e.2.2⟩, h.k, h.m⟩
theorem zPb (hT : TsOk ts) (hR : Ris ts) : ∀ f : Nat, Alk ts (typeM ts f) (zM5 ts f) := by
 intro f
 induction f with
 | zero => intro a b _; exact zMn _
 | succ f ih =>
  intro a b h;unfold typeM zM5;rw [← h.e.2.1, h.pos];split
  · exact zMw _ _
  refine Out.bind (s := a) (zOc hT hR ih ts.length h.up : Out ts a.up _ _) (fun i s s' e m _ => ?_);rw [e.is, e.pos];split
  · rename_i hc
    have e1 := e.on hT hR (za0 hc);have m1 := m.on (hT.step e.k (za0 hc));refine ((ih _ _ e1).mid hR m1).bind (fun j s2 s2' e2 m2 _ => ?_);refine ((zMs e2 _).mid hR m2).bind (fun l s3 s3' e3 m3 _ => ?_);exact Out.mid (a := s3.down) hR ⟨m3.k, m3.h, m3.m1, m3.m2⟩ (e3.down.out l)
  · exact Out.mid (a := s.down) hR ⟨m.k, m.h, m.m1, m.m2⟩ (e.down.out i)
variable {q : Prop} {o : Nat}
theorem zNz (hT : TsOk ts) {ns : List (List UInt8)} {kind : Nat} (h0 : kind ≠ 0) {s : St} (hk : s.k < ts.length) : Go3 q ts 1 s (zMf ts ns kind s) := by
 refine Go3.bind (d1 := 1) (d2 := 0) (zfl hT h0 hk) (fun t s1 _ h2 _ => ?_);split
 · trivial
 · exact ⟨zJw _, h2, rfl⟩
theorem zPx (hT : TsOk ts) {P : St → R3 Nat} (hP : GoAt q ts o P) : ∀ (f : Nat) (ns : List (List UInt8)) (ks : List Int) (s : St), s.k < ts.length → s.op = o → ts.length ≤ f + s.k → Go3 q ts 1 s (rowR ts P f ns ks s) := by
 intro f
 induction f with
 | zero => intro ns ks s hk _ hf; omega
 | succ f ih =>
  intro ns ks s hk ho hf;unfold rowR;refine Go3.weak (d := 1 + (1 + (1 + 0))) ?_ (by omega);refine (zNz hT (by decide) hk).bind (fun x s1 a1 b1 c1 => (zbv hT b1).bind (fun _ s2 a2 b2 c2 => (hP s2 b2 (by omega)).bind (fun i s3 a3 b3 c3 => ?_)));split
  · rename_i h
    exact Go3.moved (d := 1) (s1 := s3.on 1) (ih _ _ (s3.on 1) (hT.step b3 (za0 h)) (by show s3.op = o; omega) (by show ts.length ≤ f + (s3.k + 1); omega)) (by show s3.k + 0 ≤ s3.k + 1 + 1; omega) rfl
  · exact Go3.ok_ b3
theorem zOi (hT : TsOk ts) {S : St → R3 Nat} {n : Nat} (hP : ∀ s : St, s.k < ts.length → n ≤ s.k → s.op = o → Go3 q ts 1 s (S s)) : ∀ (f : Nat) (ns : List (List UInt8)) (ks : List Int) (s : St), s.k < ts.length → n ≤ s.k → s.op = o → ts.length ≤ f + s.k → Go3 q ts 1 s (zM8 ts S f ns ks s) := by
 intro f
 induction f with
 | zero => intro ns ks s hk _ _ hf; omega
 | succ f ih =>
  intro ns ks s hk hn ho hf;unfold zM8;split
  · rename_i h
    exact ⟨zJw _, hT.step hk (za0 h), rfl⟩
  refine Go3.weak (d := 1 + (1 + 0)) ?_ (by omega);refine (zNz hT (by decide) hk).bind (fun x s1 a1 b1 c1 => (hP s1 b1 (by omega) (by omega)).bind (fun i s3 a3 b3 c3 => ?_));split
  · rename_i h
    exact Go3.moved (d := 1) (s1 := s3.on 1) (ih _ _ (s3.on 1) (hT.step b3 (za0 h)) (by show n ≤ s3.k + 1; omega) (by show s3.op = o; omega) (by show ts.length ≤ f + (s3.k + 1); omega)) (by show s3.k + 0 ≤ s3.k + 1 + 1; omega) rfl
  · exact Go3.ok_ b3
theorem zOb (hT : TsOk ts) {T : St → R3 Nat} (hP : GoAt q ts o T) : ∀ (g : Nat) (s : St), s.k < ts.length → s.op = o → ts.length ≤ g + s.k → Go3 q ts 1 s (zLy ts T g s) := by
 intro g
 induction g with
 | zero => intro s hk _ hf; omega
 | succ g ih =>
  intro s hk ho hf;unfold zLy;split
  · rename_i x hx
    exact Go3.weak (zd0 hT (M := fun s' => newY s' x) hk (zf8 hx) (fun hk1 => zn7 hk1)) (by omega)
  split
  · rename_i h
    refine Go3.weak (d := (1 + (1 + 0)) + 1) (zd0 hT (M := fun s => (T s).bind fun i s1 => (mustM ts [41] s1).bind fun _ s2 => .ok i s2) hk (za0 h) (fun hk1 => ?_)) (by omega);exact (hP _ hk1 ho).bind (fun i s1 a b c => (zbv hT b).bind (fun _ s2 a2 b2 c2 => Go3.ok_ b2))
  split
  · rename_i h
    have hk1 := hT.step hk (za0 h);split
    · rename_i h2
      have hk2 : (s.on 2).k < ts.length := hT.step (k := (s.on 1).k) hk1 (za0 h2);exact Go3.moved (d := 0) (s1 := s.on 2) (zn7 hk2) (by show s.k + 1 ≤ s.k + 2 + 0; omega) rfl
    · refine Go3.weak (d := (1 + (1 + 0)) + 1) (zd0 hT (M := fun s' => (rowR ts T ts.length [] [] s').bind fun x s1 => (mustM ts [125] s1).bind fun _ s2 => newY s2 ⟨8, (posA ts s : Nat), bs [], bss x.1, x.2, false⟩) hk (za0 h) (fun hk1 => ?_)) (by omega)
      exact (zPx hT hP _ _ _ _ hk1 ho (Nat.le_add_right _ _)).bind (fun x s1 a b c => (zbv hT b).bind (fun _ s2 a2 b2 c2 => zn7 b2))
  split
  · rename_i h
    have hk1 := hT.step hk (za0 h);split
    · rename_i h2
      have hk2 : (s.on 2).k < ts.length := hT.step (k := (s.on 1).k) hk1 (za0 h2);exact Go3.moved (d := 0) (s1 := s.on 2) (zn7 hk2) (by show s.k + 1 ≤ s.k + 2 + 0; omega) rfl
    · refine Go3.weak (d := (1 + (1 + 0)) + 1) (zd0 hT (M := fun s' => (zM8 ts (zLy ts T g) ts.length [] [] s').bind fun x s1 => (mustM ts [93] s1).bind fun _ s2 => newY s2 ⟨9, (posA ts s : Nat), bs [], bss x.1, x.2.1, x.2.2⟩) hk (za0 h) (fun hk1 => ?_)) (by omega)
      exact (zOi (n := s.k + 1) hT (fun s' h1 h2 h3 => ih s' h1 h3 (by omega)) _ _ _ _ hk1 (zJw _) ho (Nat.le_add_right _ _)).bind (fun x s1 a b c => (zbv hT b).bind (fun _ s2 a2 b2 c2 => zn7 b2))
  · trivial
theorem zOj (hT : TsOk ts) : ∀ (f o : Nat), (q ∨ (257 ≤ f + o ∧ o ≤ 256)) → GoAt q ts o (zM5 ts f) := by
 intro f
 induction f with
 | zero => intro o hq s _ _; exact hq.elim id (fun h => by omega)
 | succ f ih =>
  intro o hq s hk hs;unfold zM5;split
  · trivial
  rename_i hne
  have hP : GoAt q ts (o + 1) (zM5 ts f) := ih (o + 1) (hq.imp id (fun h => ⟨by omega, by omega⟩));have h1 := zOb hT hP ts.length s.up hk (by show s.op + 1 = _; omega) (Nat.le_add_right _ _)
  cases hM : zLy ts (zM5 ts f) ts.length s.up with
  | bad e p => trivial
  | un => rw [hM] at h1; exact h1
  | ok i s1 =>
   rw [hM] at h1;obtain ⟨a1, b1, c1⟩ := h1;have a1' : s.k + 1 ≤ s1.k := a1;have c1' : s1.op = s.op + 1 := c1;show Go3 q ts 1 s (if _ then _ else _)
   split
   · rename_i h
     have hk1 := hT.step b1 (za0 h);have h2 := hP (s1.on 1) hk1 (by show s1.op = _; omega)
     cases hM2 : zM5 ts f (s1.on 1) with
     | bad e p => trivial
     | un => rw [hM2] at h2; exact h2
     | ok j s2 =>
      rw [hM2] at h2;obtain ⟨a2, b2, c2⟩ := h2;have a2' : s1.k + 1 + 1 ≤ s2.k := a2;have c2' : s2.op = s1.op := c2;show Go3 q ts 1 s ((newY s2 _).bind _)
      unfold newY;split
      · exact ⟨by show s.k + 1 ≤ s2.k; omega, b2, by show s2.op - 1 = s.op; omega⟩
      · trivial
   · exact ⟨by show s.k + 1 ≤ s1.k; omega, b1, by show s1.op - 1 = s.op; omega⟩
abbrev st0 : St := ⟨0, 0, [], [], [], []⟩
theorem zOz (hT : TsOk ts) (hR : Ris ts) :
 match typeM ts 257 st0, zM5 ts 257 st0 with
 | .ok i s, .ok j s' => i = j ∧ Eqv s s' ∧ s.k < ts.length
 | .bad e p, .bad e' p' => e = e' ∧ p = p'
 | _, _ => False := by
 have h := zPb hT hR 257 st0 st0 ⟨⟨rfl, rfl, rfl, rfl, rfl⟩, hT.pos, fun x hx => by cases hx⟩;have g1 := zjv (q := False) hT 257 0 (.inr (by decide)) st0 hT.pos rfl;have g2 := zOj (q := False) hT 257 0 (.inr (by decide)) st0 hT.pos rfl;revert h g1 g2
 generalize typeM ts 257 st0 = A;generalize zM5 ts 257 st0 = B;intro h g1 g2
 cases A with
 | un => exact g1.elim
 | bad e p =>
  cases B with
  | un => exact g2.elim
  | bad e' p' => exact h
  | ok j b => exact h.elim
 | ok i a =>
  cases B with
  | un => exact g2.elim
  | bad e' p' => exact h.elim
  | ok j b => exact ⟨h.1, h.2.1, h.2.2.2.1⟩
end
end Go.Proofs.YtidmeodmkcomlaaGreatDoor
