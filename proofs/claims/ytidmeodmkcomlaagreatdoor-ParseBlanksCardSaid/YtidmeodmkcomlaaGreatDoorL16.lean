/- Two texts that are alike: a parser that -/
import Derived.Test.YtidmeodmkcomlaaGreatDoorL15
namespace Go.Proofs.YtidmeodmkcomlaaGreatDoor
open Go Go.Proofs Go.RowKit
abbrev shK (d : Nat) (t : Tk) : Tk := (t.1, t.2.1, t.2.2 + d)
def shT (d : Nat) (x : TermD) : TermD := { x with pos := x.pos + (d : Int) }
def shY (d : Nat) (x : TypD) : TypD := { x with pos := x.pos + (d : Int) }
def shA (d : Nat) (x : AliD) : AliD := { x with pos := x.pos + (d : Int) }
def shB (d : Nat) (x : Bo) : Bo := (x.1 + d, x.2)
structure Off where
 a : Nat
 d : Nat
 o : Nat
def St.sh (F : Off) (s : St) : St := ⟨F.a + s.k, F.o + s.op, s.t1.map (shT F.d), s.t2.map (shY F.d), s.t3.map (shA F.d), s.m.map (shB F.d)⟩
def Calm (t : Tk) : Prop := t.1 = 0 ∨ (t.1 = 8 ∧ t.2.1 = [41])
structure Alike (ts us : List Tk) (F : Off) (st : Prop) : Prop where
 tok : ∀ k, k + 1 < ts.length → tkA us (F.a + k) = shK F.d (tkA ts k)
 last : ∀ k, k + 1 = ts.length → Calm (tkA us (F.a + k)) ∧ (st → tkA us (F.a + k) = shK F.d (tkA ts k))
 so : st → F.o = 0
def Rel {α : Type} (n : Nat) (F : Off) (st : Prop) (p : Nat) (v : α → α) : R3 α → R3 α → Prop
 | .un, _ => True
 | .ok i s, R => R = .un ∨ (0 < F.o ∧ ∃ q, R = .bad 5 q) ∨ (s.k < n ∧ s.op = p ∧ R = .ok (v i) (s.sh F))
 | .bad c q, R => R = .un ∨ (st → R = .bad c (if c = 6 then 0 else q + F.d))
section
variable {ts us : List Tk} {F : Off} {st : Prop} {p : Nat} {α β : Type}
theorem Rel.un {v : α → α} {R : R3 α} : Rel ts.length F st p v R .un := by
 cases R with
 | ok i s => exact .inl rfl
 | bad c q => exact .inl rfl
 | un => trivial
theorem Rel.bind {v : α → α} {w : β → β} {P P' : R3 α} {f g : α → St → R3 β} (hF : Alike ts us F st) (h : Rel ts.length F st p v P P') (k : ∀ i s, s.k < ts.length → s.op = p → Rel ts.length F st p w (f i s) (g (v i) (s.sh F))) : Rel ts.length F st p w (P.bind f) (P'.bind g) := by
 cases P with
 | ok i s =>
  rcases h with h | ⟨h0, q, h⟩ | ⟨h1, h2, h⟩
  · rw [h]; exact Rel.un
  · rw [h]
    show Rel _ _ _ _ _ (f i s) (.bad 5 q)
    cases f i s with
    | ok j t => exact .inr (.inl ⟨h0, q, rfl⟩)
    | bad c q => exact .inr (fun hs => absurd (hF.so hs) (by omega))
    | un => trivial
  · rw [h]; exact k i s h1 h2
 | bad c q =>
  rcases h with h | h
  · rw [h]; exact Rel.un
  · exact .inr (fun hs => by rw [h hs]; rfl)
 | un => trivial
theorem Rel.ok_ {v : α → α} {i : α} {s : St} (hk : s.k < ts.length) (ho : s.op = p) : Rel ts.length F st p v (.ok i s) (.ok (v i) (s.sh F)) := .inr (.inr ⟨hk, ho, rfl⟩)
theorem Rel.bad_ {v : α → α} {c q q' : Nat} (hc : c ≠ 6) (h : st → q' = q + F.d) : Rel ts.length F st p v (.bad c q) (.bad c q') := .inr (fun hs => by rw [if_neg hc, h hs])
theorem Rel.lim {v : α → α} : Rel ts.length F st p v (.bad 6 0) (.bad 6 0) := .inr (fun _ => rfl)
theorem Alike.at_ (hF : Alike ts us F st) (hT : TsOk ts) {k : Nat} (hk : k < ts.length) (h : (tkA ts k).1 ≠ 0) : tkA us (F.a + k) = shK F.d (tkA ts k) := hF.tok k (hT.step hk h)
theorem Alike.st_ (hF : Alike ts us F st) {k : Nat} (hk : k < ts.length) (hs : st) : tkA us (F.a + k) = shK F.d (tkA ts k) := by
 rcases tar (k + 1) ts.length with h | h
 · exact hF.tok k h
 · exact (hF.last k (by omega)).2 hs
theorem zib (hT : TsOk ts) {k : Nat} (hk : k + 1 = ts.length) : (tkA ts k).1 = 0 := by
 have := hT.last;rwa [show ts.length - 1 = k by omega] at this
theorem zhx {t : Tk} (h : t.1 = 0) (l : List (List UInt8)) : za2 t l = false := by
 unfold za2; rw [h]; rfl
theorem zcz {t : Tk} (h : Calm t) {l : List (List UInt8)} (hl : l.any (fun x => x == [41]) = false) : za2 t l = false := by
 rcases h with h | ⟨_, h⟩
 · exact zhx h l
 · unfold za2; rw [h, hl]; simp
theorem zbm (hF : Alike ts us F st) (hT : TsOk ts) {s : St} (hk : s.k < ts.length) {l : List (List UInt8)} (hl : l.any (fun x => x == [41]) = false) : isA us (s.sh F) l = isA ts s l := by
 rcases tar (s.k + 1) ts.length with h | h
 · show za2 (tkA us (F.a + s.k)) l = _
   rw [hF.tok _ h]; rfl
 · show za2 (tkA us (F.a + s.k)) l = _
   rw [zcz (hF.last s.k (by omega)).1 hl];exact (zhx (zib hT (by omega)) l).symm
theorem zI9 (hF : Alike ts us F st) (hT : TsOk ts) {s : St} (hk : s.k < ts.length) {l : List (List UInt8)} (h : isA ts s l = true) : isA us (s.sh F) l = true := by
 show za2 (tkA us (F.a + s.k)) l = _
 rw [hF.at_ hT hk (za0 h)]; exact h
theorem is_st (hF : Alike ts us F st) {s : St} (hk : s.k < ts.length) (hs : st) {l : List (List UInt8)} : isA us (s.sh F) l = isA ts s l := by
 show za2 (tkA us (F.a + s.k)) l = _
 rw [hF.st_ hk hs]; rfl
theorem zf3 (hF : Alike ts us F st) (hT : TsOk ts) {kind : Nat} (h0 : kind ≠ 0) (h8 : kind ≠ 8) {s : St} (hk : s.k < ts.length) (ho : s.op = p) : Rel ts.length F st p (shK F.d) (zag ts kind s) (zag us kind (s.sh F)) := by
 unfold zag;show Rel _ _ _ _ _ _ (if (tkA us (F.a + s.k)).1 = kind then R3.ok (tkA us (F.a + s.k)) ((s.sh F).on 1) else R3.bad 4 (tkA us (F.a + s.k)).2.2)
 by_cases h : (tkA ts s.k).1 = kind
 · rw [if_pos h, hF.at_ hT hk (by omega), if_pos (show (shK F.d (tkA ts s.k)).1 = kind from h)]
   exact .inr (.inr ⟨hT.step hk (by omega), ho, rfl⟩)
 · rw [if_neg h]
   refine .inr (fun hs => ?_);rw [hF.st_ hk hs, if_neg (show ¬ (shK F.d (tkA ts s.k)).1 = kind from h)]; rfl
theorem zbg (hF : Alike ts us F st) (hT : TsOk ts) {x : List UInt8} {s : St} (hk : s.k < ts.length) (ho : s.op = p) : Rel ts.length F st p id (mustM ts x s) (mustM us x (s.sh F)) := by
 unfold mustM;by_cases h : isA ts s [x] = true
 · rw [if_pos h, if_pos (zI9 hF hT hk h)]
   exact .inr (.inr ⟨hT.step hk (za0 h), ho, rfl⟩)
 · rw [if_neg h]
   refine .inr (fun hs => ?_);rw [is_st hF hk hs, if_neg h];show R3.bad 4 (tkA us (F.a + s.k)).2.2 = _
   rw [hF.st_ hk hs]; rfl
theorem zF7 (s : St) (x : TermD) : (s.addT x).sh F = (s.sh F).addT (shT F.d x) := by simp [St.sh, St.addT]
theorem zF3 (s : St) (x : TypD) : (s.addY x).sh F = (s.sh F).addY (shY F.d x) := by simp [St.sh, St.addY]
theorem zG4 (s : St) (x : AliD) : (s.addA x).sh F = (s.sh F).addA (shA F.d x) := by simp [St.sh, St.addA]
theorem zcv {x y : TermD} {s : St} (hk : s.k < ts.length) (ho : s.op = p) (hy : y = shT F.d x) : Rel ts.length F st p id (newT s x) (newT (s.sh F) y) := by
 subst hy;unfold newT;rw [show (s.sh F).t1.length = s.t1.length by simp [St.sh]];split
 · rw [← zF7]; exact Rel.ok_ (v := id) (s := s.addT x) hk ho
 · exact Rel.lim
theorem ziv {x y : TypD} {s : St} (hk : s.k < ts.length) (ho : s.op = p) (hy : y = shY F.d x) : Rel ts.length F st p id (newY s x) (newY (s.sh F) y) := by
 subst hy;unfold newY;rw [show (s.sh F).t2.length = s.t2.length by simp [St.sh]];split
 · rw [← zF3]; exact Rel.ok_ (v := id) (s := s.addY x) hk ho
 · exact Rel.lim
theorem zGv (m : List Bo) (d o : Nat) (x : List UInt8) : (m.map (shB d)).contains (o + d, x) = m.contains (o, x) := by
 rw [zJz, List.contains_iff_mem, List.contains_iff_mem, ta6];constructor
 · rintro ⟨⟨a, b⟩, h, e⟩
   simp only [shB, zKu] at e;rw [show o = a by omega, ← e.2]; exact h
 · intro h; exact ⟨_, h, rfl⟩
theorem znr (hF : Alike ts us F st) (hT : TsOk ts) {o kind : Nat} (h0 : kind ≠ 0) (h8 : kind ≠ 8) {s : St} (hk : s.k < ts.length) (ho : s.op = p) : Rel ts.length F st p id (ownM ts o kind s) (ownM us (o + F.d) kind (s.sh F)) := by
 unfold ownM;refine (zf3 hF hT h0 h8 hk ho).bind hF (fun t s1 h1 h2 => ?_);rw [show (s1.sh F).m = s1.m.map (shB F.d) from rfl, show (shK F.d t).2.1 = t.2.1 from rfl, zGv];split
 · exact Rel.bad_ (by decide) (fun _ => rfl)
 · exact Rel.ok_ (v := id) (s := s1.met (o, t.2.1)) h1 h2
def SimAt (ts : List Tk) (F : Off) (st : Prop) (p : Nat) (P P' : St → R3 Nat) : Prop := ∀ s : St, s.k < ts.length → s.op = p → Rel ts.length F st p id (P s) (P' (s.sh F))
variable {P P' E E' T T' : St → R3 Nat}
theorem zsp (hF : Alike ts us F st) (hT : TsOk ts) (hP : SimAt ts F st p P P') (o : Nat) (sign : List UInt8) : ∀ (f f' : Nat) (ns : List (List UInt8)) (ks : List Int) (s : St), s.k < ts.length → s.op = p → Rel ts.length F st p id (zbc ts P o sign f ns ks s) (zbc us P' (o + F.d) sign f' ns ks (s.sh F)) := by
 intro f
 induction f with
 | zero => intro f' ns ks s _ _; trivial
 | succ f ih =>
  intro f' ns ks s hk ho
  cases f' with
  | zero => exact Rel.un
  | succ f' =>
   unfold zbc;refine (znr hF hT (by decide) (by decide) hk ho).bind hF (fun x s1 b1 c1 => (zbg hF hT b1 c1).bind hF (fun _ s2 b2 c2 => (hP s2 b2 c2).bind hF (fun i s3 b3 c3 => ?_)));rw [zbm hF hT b3 rfl];split
   · rename_i h
     exact .inr (.inr ⟨hT.step b3 (za0 h), c3, rfl⟩)
   · exact (zbg hF hT b3 c3).bind hF (fun _ s4 b4 c4 => ih f' _ _ s4 b4 c4)
theorem zlo (hF : Alike ts us F st) (hT : TsOk ts) (hP : SimAt ts F st p P P') (o : Nat) (sign : List UInt8) {s : St} (hk : s.k < ts.length) (ho : s.op = p) : Rel ts.length F st p id (zan ts P o sign s) (zan us P' (o + F.d) sign (s.sh F)) := by
 unfold zan;rw [zbm hF hT hk rfl];split
 · rename_i h
   exact .inr (.inr ⟨hT.step hk (za0 h), ho, rfl⟩)
 · exact zsp hF hT hP o sign _ _ _ _ s hk ho
theorem zqp (d : Nat) (t : Tk) : zc0 (shK d t) = (zc0 t).map (shY d) := by
 unfold zc0 shK;dsimp only;split
 · rfl
 · split <;> rfl
theorem zu6 (d : Nat) (t : Tk) : leafM (shK d t) = (leafM t).map (shT d) := by
 have hs : ∀ l, za2 (shK d t) l = za2 t l := fun _ => rfl;unfold leafM;simp only [hs];by_cases h1 : t.1 = 1
 · simp only [if_pos h1]; rfl
 simp only [if_neg h1];by_cases h1 : t.1 = 6
 · simp only [if_pos h1]; rfl
 simp only [if_neg h1];by_cases h1 : t.1 = 4
 · simp only [if_pos h1]; rfl
 simp only [if_neg h1];by_cases h1 : t.1 = 5
 · simp only [if_pos h1]; rfl
 simp only [if_neg h1];by_cases h1 : za2 t [[116, 114, 117, 101]] = true
 · simp only [if_pos h1]; rfl
 simp only [if_neg h1];by_cases h1 : za2 t [[102, 97, 108, 115, 101]] = true
 · simp only [if_pos h1]; rfl
 simp only [if_neg h1]; rfl
theorem zkl (hF : Alike ts us F st) (hT : TsOk ts) (hP : SimAt ts F st p T T') : SimAt ts F st p (zay ts T) (zay us T') := by
 intro s hk ho;unfold zay;rw [zbm hF hT hk (l := [[40]]) rfl];split
 · rename_i h
   exact (hP (s.on 1) (hT.step hk (za0 h)) ho).bind hF (fun i s1 b c => (zbg hF hT b c).bind hF (fun _ s2 b2 c2 => Rel.ok_ (v := id) b2 c2))
 rw [zbm hF hT hk (l := [[123]]) rfl];split
 · rename_i h
   have e := hF.at_ hT hk (za0 h);show Rel _ _ _ _ _ _ ((zan us T' (tkA us (F.a + s.k)).2.2 [58] ((s.on 1).sh F)).bind fun x s1 => newY s1 ⟨8, ((tkA us (F.a + s.k)).2.2 : Nat), bs [], bss x.1, x.2, false⟩)
   rw [e];exact (zlo hF hT hP (posA ts s) [58] (s := s.on 1) (hT.step hk (za0 h)) ho).bind hF (fun x s1 b c => ziv b c rfl)
 show Rel _ _ _ _ _ _ (match zc0 (tkA us (F.a + s.k)) with
  | some x => newY ((s.on 1).sh F) x
  | none => .bad 4 (tkA us (F.a + s.k)).2.2)
 cases hx : zc0 (tkA ts s.k) with
 | some x =>
  rw [hF.at_ hT hk (zf8 hx), zqp, hx];exact ziv (s := s.on 1) (hT.step hk (zf8 hx)) ho rfl
 | none =>
  dsimp only;refine .inr (fun hs => ?_);rw [hF.st_ hk hs, zqp, hx]; rfl
def shV (d : Nat) (x : Vr) : Vr := (x.1 + d, x.2)
theorem zCu (hF : Alike ts us F st) (hT : TsOk ts) (x : Vr) {s : St} (hk : s.k < ts.length) (ho : s.op = p) : Rel ts.length F st p (fun y => (shV F.d y.1, y.2)) (itemM ts x s) (itemM us (shV F.d x) (s.sh F)) := by
 unfold itemM;rw [zbm hF hT hk (l := [[93]]) rfl];split
 · rename_i h
   exact .inr (.inr ⟨hT.step hk (za0 h), ho, rfl⟩)
 refine Rel.bind (v := id) hF (p := p) ?_ (fun _ s1 b1 c1 => ?_)
 · show Rel _ _ _ _ _ _ (if x.2.2.length = 0 then _ else _)
   split
   · exact Rel.ok_ (v := id) hk ho
   · exact zbg hF hT hk ho
 rw [zbm hF hT b1 (l := [[46, 46]]) rfl];split
 · rename_i h
   exact (zbg (s := s1.on 1) hF hT (hT.step b1 (za0 h)) c1).bind hF (fun _ s2 b2 c2 => .inr (.inr ⟨b2, c2, rfl⟩))
 · exact (znr hF hT (by decide) (by decide) b1 c1).bind hF (fun n s2 b2 c2 => .inr (.inr ⟨b2, c2, rfl⟩))
theorem zs9 (hF : Alike ts us F st) (hT : TsOk ts) (hP : SimAt ts F st p T T') : ∀ (f f' : Nat) (x : Vr) (r : List Vr) (s : St), s.k < ts.length → s.op = p → Rel ts.length F st p id (zaq ts T f x r s) (zaq us T' f' (shV F.d x) (r.map (shV F.d)) (s.sh F)) := by
 intro f
 induction f with
 | zero => intro f' x r s _ _; trivial
 | succ f ih =>
  intro f' x r s hk ho
  cases f' with
  | zero => exact Rel.un
  | succ f' =>
   unfold zaq;refine (zCu hF hT x hk ho).bind hF (fun y s1 b1 c1 => ?_);obtain ⟨y, oo⟩ := y;dsimp only
   cases oo with
   | some q =>
    dsimp only;refine (ziv b1 c1 (by rfl)).bind hF (fun i s2 b2 c2 => ?_)
    cases r with
    | nil => exact Rel.ok_ (v := id) b2 c2
    | cons z r => exact ih f' _ r s2 b2 c2
   | none =>
    dsimp only;rw [zbm hF hT b1 (l := [[91]]) rfl];split
    · rename_i h
      have e : posA us (s1.sh F) = posA ts s1 + F.d := by
       show (tkA us (F.a + s1.k)).2.2 = _
       rw [hF.at_ hT b1 (za0 h)]
      rw [e];exact ih f' (posA ts s1, [], []) (y :: r) (s1.on 1) (hT.step b1 (za0 h)) c1
    · exact (zkl hF hT hP s1 b1 c1).bind hF (fun i s2 b2 c2 => ih f' (y.1, y.2.1, y.2.2 ++ [(i : Int)]) r s2 b2 c2)
theorem zvv (hF : Alike ts us F st) (hT : TsOk ts) (hP : SimAt ts F st p T T') : SimAt ts F st p (zak ts T) (zak us T') := by
 intro s hk ho;unfold zak;rw [zbm hF hT hk (l := [[91]]) rfl];split
 · rename_i h
   unfold zbp
   have e : posA us (s.sh F) = posA ts s + F.d := by
    show (tkA us (F.a + s.k)).2.2 = _
    rw [hF.at_ hT hk (za0 h)]
   rw [e];exact zs9 hF hT hP _ _ (posA ts s, [], []) [] (s.on 1) (hT.step hk (za0 h)) ho
 · exact zkl hF hT hP s hk ho
theorem Rel.down {R R' : R3 Nat} (h : Rel ts.length F st (p + 1) id R R') (_hF : Alike ts us F st) : Rel ts.length F st p id (R.bind fun i s => .ok i s.down) (R'.bind fun i s => .ok i s.down) := by
 cases R with
 | ok i s =>
  rcases h with h | ⟨h0, q, h⟩ | ⟨h1, h2, h⟩
  · rw [h]; exact Rel.un
  · rw [h]; exact .inr (.inl ⟨h0, q, rfl⟩)
  · rw [h]
    refine .inr (.inr ⟨h1, by show s.op - 1 = p; omega, ?_⟩);show R3.ok i (s.sh F).down = R3.ok i (s.down.sh F)
    have : F.o + s.op - 1 = F.o + (s.op - 1) := by omega
    unfold St.sh St.down;dsimp only;rw [this]
 | bad c q =>
  rcases h with h | h
  · rw [h]; exact Rel.un
  · exact .inr (fun hs => by rw [h hs]; rfl)
 | un => trivial
theorem Rel.deep {R : R3 Nat} (hF : Alike ts us F st) {q : Nat} (h0 : 0 < F.o) : Rel ts.length F st p id R (.bad 5 q) := by
 cases R with
 | ok i s => exact .inr (.inl ⟨h0, q, rfl⟩)
 | bad c r => exact .inr (fun hs => absurd (hF.so hs) (by omega))
 | un => trivial
theorem zqa (hF : Alike ts us F st) (hp : p + F.o ≤ 256) {s : St} (hk : s.k < ts.length) (ho : s.op = p) {A B : R3 Nat} (h : p + 1 + F.o ≤ 256 → Rel ts.length F st p id A B) : Rel ts.length F st p id (if s.op = 256 then .bad 5 (posA ts s) else A) (if (s.sh F).op = 256 then .bad 5 (posA us (s.sh F)) else B) := by
 have e : (s.sh F).op = F.o + p := by show F.o + s.op = _; rw [ho]
 rw [e, ho];by_cases h0 : F.o = 0
 · by_cases h5 : p = 256
   · rw [if_pos h5, if_pos (by omega)]
     refine .inr (fun hs => ?_);show R3.bad 5 (tkA us (F.a + s.k)).2.2 = _
     rw [hF.st_ hk hs]; rfl
   · rw [if_neg h5, if_neg (by omega)]
     exact h (by omega)
 · by_cases h5 : F.o + p = 256
   · rw [if_pos h5]; exact Rel.deep hF (by omega)
   · rw [if_neg h5, if_neg (by omega)]
     exact h (by omega)
def zhv (us : List Tk) (T : St → R3 Nat) (i : Nat) (s1 : St) : R3 Nat := if isA us s1 [[45, 62]] = true then (T (s1.on 1)).bind fun j s2 => newY s2 ⟨7, (posA us s1 : Nat), bs [], [], [(i : Int), (j : Int)], false⟩ else .ok i s1
theorem zro (hF : Alike ts us F st) (hT : TsOk ts) : ∀ (f f' p : Nat), p + F.o ≤ 256 → SimAt ts F st p (typeM ts f) (typeM us f') := by
 intro f
 induction f with
 | zero => intro f' p _ s _ _; trivial
 | succ f ih =>
  intro f' p hp s hk ho
  cases f' with
  | zero => exact Rel.un
  | succ f' =>
   unfold typeM;refine zqa hF hp hk ho (fun hp1 => ?_);have hP : SimAt ts F st (p + 1) (typeM ts f) (typeM us f') := ih f' (p + 1) hp1;have h1 := zvv hF hT hP s.up hk (by show s.op + 1 = _; rw [ho])
   have key : ∀ (i : Nat) (s1 : St), s1.k < ts.length → s1.op = p + 1 → Rel ts.length F st (p + 1) id (zhv ts (typeM ts f) i s1) (zhv us (typeM us f') i (s1.sh F)) := by
    intro i s1 b1 c1;unfold zhv;rw [zbm hF hT b1 (l := [[45, 62]]) rfl];split
    · rename_i h
      have e : posA us (s1.sh F) = posA ts s1 + F.d := by
       show (tkA us (F.a + s1.k)).2.2 = _
       rw [hF.at_ hT b1 (za0 h)]
      rw [e];exact (hP (s1.on 1) (hT.step b1 (za0 h)) c1).bind hF (fun j s2 b2 c2 => ziv b2 c2 rfl)
    · exact Rel.ok_ (v := id) b1 c1
   have h2 := ((h1.bind (f := zhv ts (typeM ts f)) (g := zhv us (typeM us f')) hF key).down hF)
   have assoc : ∀ (us : List Tk) (R : R3 Nat) (T : St → R3 Nat), (R.bind fun i s1 => if isA us s1 [[45, 62]] = true then (T (s1.on 1)).bind fun j s2 => (newY s2 ⟨7, (posA us s1 : Nat), bs [], [], [(i : Int), (j : Int)], false⟩).bind fun l s3 => .ok l s3.down else .ok i s1.down) = ((R.bind (zhv us T)).bind fun i s => R3.ok i s.down) := by
    intro us R T
    cases R with
    | bad c q => rfl
    | un => rfl
    | ok i s1 =>
     show (if _ then _ else _) = R3.bind (if _ then _ else _) _
     split
     · cases T (s1.on 1) <;> rfl
     · rfl
   rw [assoc ts, assoc us];exact h2
theorem ze6 (hF : Alike ts us F st) (hT : TsOk ts) {s : St} (hk : s.k < ts.length) (h : (tkA ts s.k).1 ≠ 0) : tkA us (s.sh F).k = shK F.d (tkA ts s.k) := hF.at_ hT hk h
theorem zsu (hF : Alike ts us F st) (hT : TsOk ts) (hE : SimAt ts F st p E E') (hY : SimAt ts F st p T T') {s : St} (hk : s.k < ts.length) (h0 : (tkA ts s.k).1 ≠ 0) (ho : s.op = p) : Rel ts.length F st p id (zas ts E T s) (zas us E' T' (s.sh F)) := by
 unfold zas posA;rw [ze6 hF hT hk h0];refine (hE (s.on 1) (hT.step hk h0) ho).bind hF (fun i s1 b1 c1 => ?_);by_cases he : s1.k + 1 < ts.length ∨ st
 · have e : isA us (s1.sh F) [[41]] = isA ts s1 [[41]] := by
    rcases he with he | he
    · show za2 (tkA us (F.a + s1.k)) _ = _
      rw [hF.tok _ he]; rfl
    · exact is_st hF b1 he
   rw [show isA us (St.sh F s1) [[41]] = isA ts s1 [[41]] from e];split
   · rename_i h
     exact .inr (.inr ⟨hT.step b1 (za0 h), c1, rfl⟩)
   refine (zbg hF hT b1 c1).bind hF (fun _ s2 b2 c2 => (hY s2 b2 c2).bind hF (fun j s3 b3 c3 => ?_));rw [zbm hF hT b3 (l := [[61, 62]]) rfl];split
   · rename_i h
     exact (hY (s3.on 1) (hT.step b3 (za0 h)) c3).bind hF (fun l s4 b4 c4 => (zbg hF hT b4 c4).bind hF (fun _ s5 b5 c5 => zcv b5 c5 rfl))
   · exact (zbg hF hT b3 c3).bind hF (fun _ s5 b5 c5 => zcv b5 c5 rfl)
 · have hn : s1.k + 1 = ts.length := by omega
   have hz : ∀ l, isA ts s1 l = false := fun l => zhx (zib hT hn) l;rw [if_neg (by rw [hz]; decide)];unfold mustM;rw [if_neg (by rw [hz]; decide)];exact .inr (fun hs => absurd (.inr hs) he)
theorem zwi (hF : Alike ts us F st) (hT : TsOk ts) (hE : SimAt ts F st p E E') {s : St} (hk : s.k < ts.length) (h0 : (tkA ts s.k).1 ≠ 0) (ho : s.op = p) : Rel ts.length F st p id (zbu ts E s) (zbu us E' (s.sh F)) := by
 unfold zbu posA;rw [ze6 hF hT hk h0];exact (zlo hF hT hE _ [61] (s := s.on 1) (hT.step hk h0) ho).bind hF (fun x s1 b c => zcv b c rfl)
theorem zC7 (hF : Alike ts us F st) (hT : TsOk ts) (hE : SimAt ts F st p E E') (hY : SimAt ts F st p T T') : SimAt ts F st p (atomM ts E T) (atomM us E' T') := by
 intro s hk ho;unfold atomM;rw [zbm hF hT hk (l := [[40]]) rfl];split
 · rename_i h; exact zsu hF hT hE hY hk (za0 h) ho
 rw [zbm hF hT hk (l := [[123]]) rfl];split
 · rename_i h; exact zwi hF hT hE hk (za0 h) ho
 show Rel _ _ _ _ _ _ (match leafM (tkA us (F.a + s.k)) with
  | some x => newT ((s.on 1).sh F) x
  | none => .bad 4 (tkA us (F.a + s.k)).2.2)
 cases hx : leafM (tkA ts s.k) with
 | some x =>
  rw [hF.at_ hT hk (zfm hx), zu6, hx];exact zcv (s := s.on 1) (hT.step hk (zfm hx)) ho rfl
 | none =>
  dsimp only;refine .inr (fun hs => ?_);rw [hF.st_ hk hs, zu6, hx]; rfl
theorem zyv (hF : Alike ts us F st) (hT : TsOk ts) : ∀ (f f' left : Nat) (s : St), s.k < ts.length → s.op = p → Rel ts.length F st p id (postL ts f left s) (postL us f' left (s.sh F)) := by
 intro f
 induction f with
 | zero => intro f' left s _ _; trivial
 | succ f ih =>
  intro f' left s hk ho
  cases f' with
  | zero => exact Rel.un
  | succ f' =>
   unfold postL;rw [zbm hF hT hk (l := [[46]]) rfl];split
   · rename_i h
     unfold posA;rw [ze6 hF hT hk (za0 h)];exact (zf3 hF hT (by decide) (by decide) (s := s.on 1) (hT.step hk (za0 h)) ho).bind hF (fun t s1 b1 c1 => (zcv b1 c1 rfl).bind hF (fun i s2 b2 c2 => ih f' i s2 b2 c2))
   · exact Rel.ok_ (v := id) hk ho
theorem zqv (hF : Alike ts us F st) (hT : TsOk ts) (hE : SimAt ts F st p E E') (hY : SimAt ts F st p T T') : SimAt ts F st p (postM ts E T) (postM us E' T') := fun s hk ho => (zC7 hF hT hE hY s hk ho).bind hF (fun i s1 b c => zyv hF hT _ _ i s1 b c)
theorem zq0 (hF : Alike ts us F st) (hT : TsOk ts) (hE : SimAt ts F st p E E') (hY : SimAt ts F st p T T') : SimAt ts F st p (unitM ts E T) (unitM us E' T') := by
 intro s hk ho;unfold unitM;by_cases h : (tkA ts s.k).1 = 3
 · unfold posA
   rw [if_pos h, ze6 hF hT hk (by omega), if_pos (show (shK F.d (tkA ts s.k)).1 = 3 from h)];exact (zqv hF hT hE hY (s.on 1) (hT.step hk (by omega)) ho).bind hF (fun i s1 b c => zcv b c rfl)
 · rw [if_neg h]
   have e : ¬ (tkA us (s.sh F).k).1 = 3 := by
    show ¬ (tkA us (F.a + s.k)).1 = 3
    rcases tar (s.k + 1) ts.length with h2 | h2
    · rw [hF.tok _ h2]; exact h
    · rcases (hF.last s.k (by omega)).1 with h3 | ⟨h3, _⟩ <;> omega
   rw [if_neg e];exact zqv hF hT hE hY s hk ho
theorem zsc {t : Tk} (h : unitB t = true) : t.1 ≠ 0 := by
 intro h0;unfold unitB at h;rw [zhx h0, h0] at h;exact absurd h (by decide)
theorem zAv (hF : Alike ts us F st) (hT : TsOk ts) {s : St} (hk : s.k < ts.length) : unitB (tkA us (s.sh F).k) = unitB (tkA ts s.k) := by
 show unitB (tkA us (F.a + s.k)) = _
 rcases tar (s.k + 1) ts.length with h2 | h2
 · rw [hF.tok _ h2]; rfl
 · have h3 := (hF.last s.k (by omega)).1
   have h4 := zib hT (show s.k + 1 = ts.length by omega);unfold unitB;rw [zcz h3 (l := [[116, 114, 117, 101], [102, 97, 108, 115, 101], [40], [123]]) rfl, zhx h4, h4];rcases h3 with h3 | ⟨h3, _⟩ <;> rw [h3] <;> rfl
theorem zvq (hF : Alike ts us F st) (hT : TsOk ts) (hE : SimAt ts F st p E E') (hY : SimAt ts F st p T T') : ∀ (f f' left : Nat) (s : St), s.k < ts.length → s.op = p → Rel ts.length F st p id (zat ts E T f left s) (zat us E' T' f' left (s.sh F)) := by
 intro f
 induction f with
 | zero => intro f' left s _ _; trivial
 | succ f ih =>
  intro f' left s hk ho
  cases f' with
  | zero => exact Rel.un
  | succ f' =>
   unfold zat;rw [zAv hF hT hk];split
   · rename_i h
     unfold posA;rw [ze6 hF hT hk (zsc h)];exact (zq0 hF hT hE hY s hk ho).bind hF (fun i s1 b1 c1 => (zcv b1 c1 rfl).bind hF (fun j s2 b2 c2 => ih f' j s2 b2 c2))
   · exact Rel.ok_ (v := id) hk ho
theorem zxa (hF : Alike ts us F st) (hT : TsOk ts) (hE : SimAt ts F st p E E') (hY : SimAt ts F st p T T') : SimAt ts F st p (zb0 ts E T) (zb0 us E' T') := fun s hk ho => (zq0 hF hT hE hY s hk ho).bind hF (fun i s1 b c => zvq hF hT hE hY _ _ i s1 b c)
theorem zyq (hF : Alike ts us F st) (hT : TsOk ts) (hP : SimAt ts F st p P P') (left : Nat) {s : St} (hk : s.k < ts.length) (h0 : (tkA ts s.k).1 ≠ 0) (ho : s.op = p) : Rel ts.length F st p id (opM ts P left s) (opM us P' left (s.sh F)) := by
 unfold opM posA;rw [ze6 hF hT hk h0];exact (hP (s.on 1) (hT.step hk h0) ho).bind hF (fun i s1 b c => zcv b c rfl)
theorem zEr (hF : Alike ts us F st) (hT : TsOk ts) (hP : SimAt ts F st p P P') (sg : List (List UInt8)) (hl : sg.any (fun x => x == [41]) = false) : ∀ (f f' left : Nat) (s : St), s.k < ts.length → s.op = p → Rel ts.length F st p id (rowL ts P sg f left s) (rowL us P' sg f' left (s.sh F)) := by
 intro f
 induction f with
 | zero => intro f' left s _ _; trivial
 | succ f ih =>
  intro f' left s hk ho
  cases f' with
  | zero => exact Rel.un
  | succ f' =>
   unfold rowL;rw [zbm hF hT hk hl];split
   · rename_i h
     exact (zyq hF hT hP left hk (za0 h) ho).bind hF (fun i s1 b c => ih f' i s1 b c)
   · exact Rel.ok_ (v := id) hk ho
theorem znj (hF : Alike ts us F st) (hT : TsOk ts) (hP : SimAt ts F st p P P') (sg : List (List UInt8)) (hl : sg.any (fun x => x == [41]) = false) : SimAt ts F st p (rowM ts P sg) (rowM us P' sg) := fun s hk ho => (hP s hk ho).bind hF (fun i s1 b c => zEr hF hT hP sg hl _ _ i s1 b c)
theorem zrk (hF : Alike ts us F st) (hT : TsOk ts) (hE : SimAt ts F st p E E') (hY : SimAt ts F st p T T') : SimAt ts F st p (joinM ts E T) (joinM us E' T') := znj hF hT (znj hF hT (znj hF hT (zxa hF hT hE hY) _ rfl) _ rfl) _ rfl
theorem zt9 (hF : Alike ts us F st) (hT : TsOk ts) (hE : SimAt ts F st p E E') (hY : SimAt ts F st p T T') : SimAt ts F st p (zad ts E T) (zad us E' T') := by
 intro s hk ho;unfold zad;refine (zrk hF hT hE hY s hk ho).bind hF (fun i s1 b c => ?_);rw [zbm hF hT b (l := [[61, 61], [60], [60, 46]]) rfl];split
 · rename_i h; exact zyq hF hT (zrk hF hT hE hY) i b (za0 h) c
 · exact Rel.ok_ (v := id) b c
theorem zG9 (hF : Alike ts us F st) (hT : TsOk ts) (hE : SimAt ts F st p E E') {s : St} (hk : s.k < ts.length) (h0 : (tkA ts s.k).1 ≠ 0) (ho : s.op = p) : Rel ts.length F st p id (funM ts E s) (funM us E' (s.sh F)) := by
 unfold funM posA;rw [ze6 hF hT hk h0];exact (zf3 hF hT (by decide) (by decide) (s := s.on 1) (hT.step hk h0) ho).bind hF (fun t s1 b1 c1 => (zbg hF hT b1 c1).bind hF (fun _ s2 b2 c2 => (hE s2 b2 c2).bind hF (fun i s3 b3 c3 => zcv b3 c3 rfl)))
theorem zHs (hF : Alike ts us F st) (hT : TsOk ts) (hE : SimAt ts F st p E E') {s : St} (hk : s.k < ts.length) (h0 : (tkA ts s.k).1 ≠ 0) (ho : s.op = p) : Rel ts.length F st p id (letM ts E s) (letM us E' (s.sh F)) := by
 unfold letM posA;dsimp only;have hk1 := hT.step hk h0;rw [ze6 hF hT hk h0, show isA us ((s.sh F).on 1) [[114, 101, 99]] = isA ts (s.on 1) [[114, 101, 99]] from zbm (s := s.on 1) hF hT hk1 rfl]
 obtain ⟨s0, h1, h2, h3, h4⟩ : ∃ s0 : St, (if isA ts (s.on 1) [[114, 101, 99]] = true then s.on 2 else s.on 1) = s0 ∧ s0.k < ts.length ∧ s0.op = p ∧ (if isA ts (s.on 1) [[114, 101, 99]] = true then (s.sh F).on 2 else (s.sh F).on 1) = s0.sh F := by
  split
  · rename_i h
    exact ⟨_, rfl, hT.step hk1 (za0 h), ho, rfl⟩
  · exact ⟨_, rfl, hk1, ho, rfl⟩
 rw [h1, h4];refine (zf3 hF hT (by decide) (by decide) h2 h3).bind hF (fun t s1 b1 c1 => (zbg hF hT b1 c1).bind hF (fun _ s2 b2 c2 => (hE s2 b2 c2).bind hF (fun i s3 b3 c3 => (zbg hF hT b3 c3).bind hF (fun _ s4 b4 c4 => (hE s4 b4 c4).bind hF (fun j s5 b5 c5 => zcv b5 c5 rfl)))))
theorem zwu (hF : Alike ts us F st) (hT : TsOk ts) (hE : SimAt ts F st p E E') {s : St} (hk : s.k < ts.length) (h0 : (tkA ts s.k).1 ≠ 0) (ho : s.op = p) : Rel ts.length F st p id (zby ts E s) (zby us E' (s.sh F)) := by
 unfold zby posA;rw [ze6 hF hT hk h0];exact (hE (s.on 1) (hT.step hk h0) ho).bind hF (fun i s1 b1 c1 => (zbg hF hT b1 c1).bind hF (fun _ s2 b2 c2 => (hE s2 b2 c2).bind hF (fun j s3 b3 c3 => (zbg hF hT b3 c3).bind hF (fun _ s4 b4 c4 => (hE s4 b4 c4).bind hF (fun l s5 b5 c5 => zcv b5 c5 rfl)))))
theorem zvu (hF : Alike ts us F st) (hT : TsOk ts) (hE : SimAt ts F st p E E') (o : Nat) : ∀ (f f' : Nat) (ns : List (List UInt8)) (ks : List Int) (s : St), s.k < ts.length → s.op = p → Rel ts.length F st p id (zbz ts E o f ns ks s) (zbz us E' (o + F.d) f' ns ks (s.sh F)) := by
 intro f
 induction f with
 | zero => intro f' ns ks s _ _; trivial
 | succ f ih =>
  intro f' ns ks s hk ho
  cases f' with
  | zero => exact Rel.un
  | succ f' =>
   unfold zbz;rw [zbm hF hT hk (l := [[124]]) rfl];split
   · rename_i h
     have hk1 := hT.step hk (za0 h);rw [show isA us ((s.sh F).on 1) [[101, 108, 115, 101]] = isA ts (s.on 1) [[101, 108, 115, 101]] from zbm (s := s.on 1) hF hT hk1 rfl];split
     · rename_i h2
       exact (zbg (s := s.on 2) hF hT (hT.step hk1 (za0 h2)) ho).bind hF (fun _ s1 b1 c1 => (hE s1 b1 c1).bind hF (fun i s2 b2 c2 => Rel.ok_ (v := id) b2 c2))
     · exact (znr hF hT (by decide) (by decide) (s := s.on 1) hk1 ho).bind hF (fun x s1 b1 c1 => (zf3 hF hT (by decide) (by decide) b1 c1).bind hF (fun t s2 b2 c2 => (zbg hF hT b2 c2).bind hF (fun _ s3 b3 c3 => (hE s3 b3 c3).bind hF (fun i s4 b4 c4 => ih f' _ _ s4 b4 c4))))
   · exact Rel.ok_ (v := id) hk ho
theorem zzu (hF : Alike ts us F st) (hT : TsOk ts) (hE : SimAt ts F st p E E') {s : St} (hk : s.k < ts.length) (h0 : (tkA ts s.k).1 ≠ 0) (ho : s.op = p) : Rel ts.length F st p id (zci ts E s) (zci us E' (s.sh F)) := by
 unfold zci posA;rw [ze6 hF hT hk h0];exact (hE (s.on 1) (hT.step hk h0) ho).bind hF (fun i s1 b1 c1 => (zbg hF hT b1 c1).bind hF (fun _ s2 b2 c2 => (zvu hF hT hE _ _ _ _ _ s2 b2 c2).bind hF (fun x s3 b3 c3 => (zbg hF hT b3 c3).bind hF (fun _ s4 b4 c4 => zcv b4 c4 rfl))))
theorem zBh (hF : Alike ts us F st) (hT : TsOk ts) (hE : SimAt ts F st p E E') (hY : SimAt ts F st p T T') : SimAt ts F st p (zba ts E T) (zba us E' T') := by
 intro s hk ho;unfold zba;rw [zbm hF hT hk (l := [[102, 117, 110]]) rfl];split
 · rename_i h; exact zG9 hF hT hE hk (za0 h) ho
 rw [zbm hF hT hk (l := [[108, 101, 116]]) rfl];split
 · rename_i h; exact zHs hF hT hE hk (za0 h) ho
 rw [zbm hF hT hk (l := [[105, 102]]) rfl];split
 · rename_i h; exact zwu hF hT hE hk (za0 h) ho
 rw [zbm hF hT hk (l := [[99, 97, 115, 101]]) rfl];split
 · rename_i h; exact zzu hF hT hE hk (za0 h) ho
 exact zt9 hF hT hE hY s hk ho
theorem zqf (hF : Alike ts us F st) (hT : TsOk ts) : ∀ (f f' p : Nat), p + F.o ≤ 256 → SimAt ts F st p (termM ts f) (termM us f') := by
 intro f
 induction f with
 | zero => intro f' p _ s _ _; trivial
 | succ f ih =>
  intro f' p hp s hk ho
  cases f' with
  | zero => exact Rel.un
  | succ f' =>
   unfold termM;exact zqa hF hp hk ho (fun hp1 => (zBh hF hT (ih f' (p + 1) hp1) (zro hF hT f f' (p + 1) hp1) s.up hk (by show s.op + 1 = _; rw [ho])).down hF)
theorem zA1 (hF : Alike ts us F st) (hT : TsOk ts) (hY : SimAt ts F st p T T') : ∀ (f f' : Nat) (s : St), s.k < ts.length → s.op = p → Rel ts.length F st p id (zb7 ts T f s) (zb7 us T' f' (s.sh F)) := by
 intro f
 induction f with
 | zero => intro f' s _ _; trivial
 | succ f ih =>
  intro f' s hk ho
  cases f' with
  | zero => exact Rel.un
  | succ f' =>
   unfold zb7;rw [zbm hF hT hk (l := [[116, 121, 112, 101]]) rfl];split
   · rename_i h
     refine (zf3 hF hT (by decide) (by decide) (s := s.on 1) (hT.step hk (za0 h)) ho).bind hF (fun t s1 b1 c1 => (zbg hF hT b1 c1).bind hF (fun _ s2 b2 c2 => (hY s2 b2 c2).bind hF (fun i s3 b3 c3 => ?_)));have e : (s3.addA ⟨bs t.2.1, (i : Int), (t.2.2 : Nat)⟩).sh F = (s3.sh F).addA ⟨bs (shK F.d t).2.1, ((id i : Nat) : Int), ((shK F.d t).2.2 : Nat)⟩ := zG4 _ _;rw [← e];exact (zbg (s := s3.addA ⟨bs t.2.1, (i : Int), (t.2.2 : Nat)⟩) hF hT b3 c3).bind hF (fun _ s4 b4 c4 => ih f' s4 b4 c4)
   · exact Rel.ok_ (v := id) hk ho
theorem zDk (hF : Alike ts us F st) (hT : TsOk ts) (f f' : Nat) (hp : F.o ≤ 256) {s : St} (hk : s.k < ts.length) (ho : s.op = 0) : Rel ts.length F st 0 id (textM ts f s) (textM us f' (s.sh F)) := by
 unfold textM;exact (zA1 hF hT (zro hF hT f f' 0 (by omega)) _ _ s hk ho).bind hF (fun _ s1 b c => (zqf hF hT f f' 0 (by omega) s1 b c).bind hF (fun _ s2 b2 c2 => Rel.ok_ (v := id) b2 c2))
end
end Go.Proofs.YtidmeodmkcomlaaGreatDoor
