/- The document's parser of types as it runs: an exact machine; what it answers is what the rules say. A region that draws its order: an operation that reads is -/
import Derived.Test.YtidmeodmkcomlaaGreatDoorK16
set_option linter.unusedSimpArgs false
set_option linter.unusedVariables false
namespace Go.Proofs.YtidmeodmkcomlaaGreatDoor
open Go Go.Proofs Go.RowKit
structure Dst where
 k : Nat
 op : Nat
 t2 : List TypD
 c : Nat
 p : Nat
abbrev Dst.bad (s : Dst) : Bool := s.c != 0
section
variable (ts : List Tk)
abbrev posS (s : Dst) : Nat := (tkA ts s.k).2.2
abbrev seeS (x : List UInt8) (s : Dst) : Bool := !s.bad && za2 (tkA ts s.k) [x]
def onS (s : Dst) : Dst := if s.k + 1 < ts.length then { s with k := s.k + 1 } else s
def stopS (e q : Nat) (s : Dst) : Dst := if s.bad = true then s else { s with c := e, p := q }
def mustS (x : List UInt8) (s : Dst) : Dst := if seeS ts x s = true then onS ts s else stopS 4 (posS ts s) s
def textS (kind : Nat) (s : Dst) : List UInt8 × Dst := if (s.bad || (tkA ts s.k).1 != kind) = true then ([], stopS 4 (posS ts s) s) else ((tkA ts s.k).2.1, onS ts s)
def zM0 (ns : List (List UInt8)) (kind : Nat) (s : Dst) : List UInt8 × Dst :=
 ((textS ts kind s).1, if (!(textS ts kind s).2.bad && ns.contains (textS ts kind s).1) = true then stopS 8 (posS ts s) (textS ts kind s).2 else (textS ts kind s).2)
def typS (x : TypD) (s : Dst) : Nat × Dst := if s.bad = true then (0, s) else if s.t2.length = 65536 then (0, stopS 6 0 s) else (s.t2.length, { s with t2 := s.t2 ++ [x] })
def rowS (P : Dst → Option (Nat × Dst)) : Nat → List (List UInt8) → List Int → Dst → Option ((List (List UInt8) × List Int) × Dst)
 | 0, _, _, _ => none
 | f + 1, ns, ks, s =>
  (P (mustS ts [58] (zM0 ts ns 1 s).2)).bind fun y =>
   if seeS ts [44] y.2 = true then rowS P f (ns ++ [(zM0 ts ns 1 s).1]) (ks ++ [(y.1 : Int)]) (onS ts y.2) else some ((ns ++ [(zM0 ts ns 1 s).1], ks ++ [(y.1 : Int)]), y.2)
def zM9 (S : Dst → Option (Nat × Dst)) : Nat → List (List UInt8) → List Int → Dst → Option ((List (List UInt8) × List Int × Bool) × Dst)
 | 0, _, _, _ => none
 | f + 1, ns, ks, s =>
  if seeS ts [46, 46] s = true then some ((ns, ks, true), onS ts s)
  else (S (zM0 ts ns 3 s).2).bind fun y =>
   if seeS ts [124] y.2 = true then zM9 S f (ns ++ [(zM0 ts ns 3 s).1]) (ks ++ [(y.1 : Int)]) (onS ts y.2) else some ((ns ++ [(zM0 ts ns 3 s).1], ks ++ [(y.1 : Int)], false), y.2)
def zNj (t : Tk) : Option TypD :=
 if za2 t wordsY = true then some ⟨(wordsY.findIdx (fun x => x == t.2.1) : Nat), (t.2.2 : Nat), bs [], [], [], false⟩
 else if t.1 = 2 then some ⟨10, (t.2.2 : Nat), bs t.2.1, [], [], false⟩
 else none
def zM2 (T : Dst → Option (Nat × Dst)) : Nat → Dst → Option (Nat × Dst)
 | 0, s => if s.bad = true then some (0, s) else none
 | g + 1, s =>
  if s.bad = true then some (0, s) else
  match zNj (tkA ts s.k) with
  | some x => some (typS x (onS ts s))
  | none =>
   if seeS ts [40] s = true then (T (onS ts s)).bind fun y => some (y.1, mustS ts [41] y.2)
   else if seeS ts [123] s = true then
    if seeS ts [125] (onS ts s) = true then some (typS ⟨8, (posS ts s : Nat), bs [], [], [], false⟩ (onS ts (onS ts s)))
    else (rowS ts T ts.length [] [] (onS ts s)).bind fun y => some (typS ⟨8, (posS ts s : Nat), bs [], bss y.1.1, y.1.2, false⟩ (mustS ts [125] y.2))
   else if seeS ts [91] s = true then
    if seeS ts [93] (onS ts s) = true then some (typS ⟨9, (posS ts s : Nat), bs [], [], [], false⟩ (onS ts (onS ts s)))
    else (zM9 ts (zM2 T g) ts.length [] [] (onS ts s)).bind fun y => some (typS ⟨9, (posS ts s : Nat), bs [], bss y.1.1, y.1.2.1, y.1.2.2⟩ (mustS ts [93] y.2))
   else some (0, stopS 4 (posS ts s) s)
def Dst.up (s : Dst) : Dst := { s with op := s.op + 1 }
def Dst.down (s : Dst) : Dst := { s with op := s.op - 1 }
def typeS : Nat → Dst → Option (Nat × Dst)
 | 0, s => if s.bad = true then some (0, s) else none
 | f + 1, s =>
  if s.bad = true then some (0, s) else
  if s.op = 256 then some (0, stopS 5 (posS ts s) s) else
  (zM2 ts (typeS f) ts.length s.up).bind fun y =>
   if seeS ts [45, 62] y.2 = true then
    (typeS f (onS ts y.2)).bind fun z => some ((typS ⟨7, (posS ts y.2 : Nat), bs [], [], [(y.1 : Int), (z.1 : Int)], false⟩ z.2).1, (typS ⟨7, (posS ts y.2 : Nat), bs [], [], [(y.1 : Int), (z.1 : Int)], false⟩ z.2).2.down)
   else some (y.1, y.2.down)
end
def St.sg (s : St) : Dst := ⟨s.k, s.op, s.t2, 0, 0⟩
def Fl (s : St) : Prop := s.t2.length ≤ 65536 ∧ s.t1 = [] ∧ s.t3 = []
def Rl {α : Type} (ts : List Tk) : R3 α → Option (α × Dst) → Prop
 | .un, _ => True
 | .ok i s, O => O = some (i, s.sg) ∧ s.k < ts.length ∧ Fl s
 | .bad e q, O => e ≠ 0 ∧ ∃ i s, O = some (i, s) ∧ s.c = e ∧ s.p = q
section
variable {ts : List Tk} {α β : Type}
theorem zMy {s : Dst} (h : s.c ≠ 0) : s.bad = true := by simpa [Dst.bad] using h
theorem zMt {s : Dst} (h : s.c ≠ 0) (x : List UInt8) : seeS ts x s = false := by simp [seeS, Dst.bad, h]
theorem zPl {s : Dst} (h : s.c ≠ 0) (e q : Nat) : stopS e q s = s := by unfold stopS; rw [if_pos (zMy h)]
theorem zMm {s : Dst} (h : s.c ≠ 0) (x : List UInt8) : mustS ts x s = s := by unfold mustS; rw [zMt h, zPl h]; rfl
theorem zMh {s : Dst} (h : s.c ≠ 0) (x : TypD) : typS x s = (0, s) := by unfold typS; rw [if_pos (zMy h)]
theorem zNi {s : Dst} (h : s.c ≠ 0) (f : Nat) : typeS ts f s = some (0, s) := by cases f <;> (unfold typeS; rw [if_pos (zMy h)])
theorem zN6 {T : Dst → Option (Nat × Dst)} {s : Dst} (h : s.c ≠ 0) (f : Nat) : zM2 ts T f s = some (0, s) := by cases f <;> (unfold zM2; rw [if_pos (zMy h)])
theorem zMp (s : St) : s.sg.bad = false := rfl
theorem zMk (x : List UInt8) (s : St) : seeS ts x s.sg = isA ts s [x] := by show (!s.sg.bad && _) = _; rw [zMp]; rfl
theorem on_sg {s : St} (hT : TsOk ts) (hk : s.k < ts.length) (h0 : (tkA ts s.k).1 ≠ 0) : onS ts s.sg = (s.on 1).sg := by
 unfold onS;rw [if_pos (show s.sg.k + 1 < ts.length from hT.step hk h0)];rfl
theorem Rl.bad_ {e q : Nat} (h : e ≠ 0) {i : α} {s : Dst} (h1 : s.c = e) (h2 : s.p = q) : Rl ts (.bad e q : R3 α) (some (i, s)) := ⟨h, i, s, rfl, h1, h2⟩
theorem zMa (e q : Nat) (s : St) : (stopS e q s.sg).c = e ∧ (stopS e q s.sg).p = q := by unfold stopS; rw [zMp]; exact ⟨rfl, rfl⟩
theorem Rl.bind {p : R3 α} {O : Option (α × Dst)} {f : α → St → R3 β} {F : α × Dst → Option (β × Dst)} (h : Rl ts p O) (k : ∀ i s, s.k < ts.length → Fl s → Rl ts (f i s) (F (i, s.sg))) (kb : ∀ i s, s.c ≠ 0 → ∃ j, F (i, s) = some j ∧ j.2.c = s.c ∧ j.2.p = s.p) : Rl ts (p.bind f) (O.bind F) := by
 cases p with
 | un => trivial
 | bad e q =>
  obtain ⟨he, i, s, rfl, h1, h2⟩ := h;obtain ⟨j, hj, g1, g2⟩ := kb i s (by omega);exact ⟨he, j.1, j.2, hj, g1.trans h1, g2.trans h2⟩
 | ok i s =>
  obtain ⟨rfl, h1, h2⟩ := h;exact k i s h1 h2
theorem zN9 (hT : TsOk ts) {s : St} (hk : s.k < ts.length) (hn : Fl s) (x : List UInt8) : Rl ts (mustM ts x s) (some ((), mustS ts x s.sg)) := by
 unfold mustM mustS;rw [zMk];split
 · rename_i h
   exact ⟨congrArg (fun z => some ((), z)) (on_sg hT hk (za0 h)), hT.step hk (za0 h), hn⟩
 · exact Rl.bad_ (by decide) (zMa _ _ _).1 (zMa _ _ _).2
theorem zO2 (hT : TsOk ts) {s : St} (hk : s.k < ts.length) (hn : Fl s) (ns : List (List UInt8)) {kind : Nat} (h0 : kind ≠ 0) : Rl ts (zMf ts ns kind s) (some (zM0 ts ns kind s.sg)) := by
 unfold zMf zag zM0 textS;have hb : s.sg.bad = false := rfl;by_cases h : (tkA ts s.k).1 = kind
 · have e : (s.sg.bad || (tkA ts s.sg.k).1 != kind) = false := by rw [hb]; show ((tkA ts s.k).1 != kind) = false; simp [h]
   rw [if_pos h, e, on_sg hT hk (by omega)];show Rl ts (if ns.contains (tkA ts s.k).2.1 = true then R3.bad 8 _ else _) (some ((tkA ts s.k).2.1, if (!(s.on 1).sg.bad && ns.contains (tkA ts s.k).2.1) = true then stopS 8 _ (s.on 1).sg else (s.on 1).sg))
   rw [zMp, show (!false && ns.contains (tkA ts s.k).2.1) = ns.contains (tkA ts s.k).2.1 from rfl];cases ns.contains (tkA ts s.k).2.1
   · exact ⟨rfl, hT.step hk (by omega), hn⟩
   · exact Rl.bad_ (by decide) (zMa 8 _ (s.on 1)).1 (zMa 8 _ (s.on 1)).2
 · have e : (s.sg.bad || (tkA ts s.sg.k).1 != kind) = true := by rw [hb]; show ((tkA ts s.k).1 != kind) = true; simp [h]
   have h1 := zMa 4 (posS ts s.sg) s;have h2 : (stopS 4 (posS ts s.sg) s.sg).bad = true := zMy (by rw [h1.1]; decide);rw [if_neg h, e];show Rl ts (R3.bad 4 _) (some ([], if (!(stopS 4 (posS ts s.sg) s.sg).bad && _) = true then _ else stopS 4 (posS ts s.sg) s.sg))
   rw [h2];exact Rl.bad_ (by decide) h1.1 h1.2
theorem zN3 {s : St} (hk : s.k < ts.length) (hn : Fl s) (x : TypD) : Rl ts (newY s x) (some (typS x s.sg)) := by
 unfold newY typS;rw [zMp, if_neg (show ¬false = true by simp)];by_cases h : s.t2.length < 65536
 · rw [if_pos h, if_neg (show ¬ s.sg.t2.length = 65536 by show ¬ s.t2.length = 65536; omega)]
   exact ⟨rfl, hk, by show (s.t2 ++ [x]).length ≤ 65536; rw [zK5]; exact h, hn.2⟩
 · rw [if_neg h, if_pos (show s.sg.t2.length = 65536 by show s.t2.length = 65536; have := hn.1; omega)]
   exact Rl.bad_ (by decide) (zMa _ _ _).1 (zMa _ _ _).2
def Gl (ts : List Tk) (P : St → R3 Nat) (O : Dst → Option (Nat × Dst)) : Prop := (∀ s, s.k < ts.length → Fl s → Rl ts (P s) (O s.sg)) ∧ ∀ s, s.c ≠ 0 → O s = some (0, s)
theorem zQ3 (hT : TsOk ts) {P : St → R3 Nat} {O : Dst → Option (Nat × Dst)} (hP : Gl ts P O) : ∀ (f : Nat) (ns : List (List UInt8)) (ks : List Int) (s : St), s.k < ts.length → Fl s → Rl ts (rowR ts P f ns ks s) (rowS ts O f ns ks s.sg) := by
 intro f
 induction f with
 | zero => intro ns ks s _ _; trivial
 | succ f ih =>
  intro ns ks s hk hn;unfold rowR rowS
  have h1 := (zO2 hT hk hn ns (kind := 1) (by decide)).bind (f := fun x s1 => (mustM ts [58] s1).bind fun _ s2 => (P s2).bind fun i s3 => if isA ts s3 [[44]] = true then rowR ts P f (ns ++ [x]) (ks ++ [(i : Int)]) (s3.on 1) else .ok (ns ++ [x], ks ++ [(i : Int)]) s3)
   (F := fun z => (O (mustS ts [58] z.2)).bind fun y => if seeS ts [44] y.2 = true then rowS ts O f (ns ++ [z.1]) (ks ++ [(y.1 : Int)]) (onS ts y.2) else some ((ns ++ [z.1], ks ++ [(y.1 : Int)]), y.2)) (fun x s1 k1 n1 => ?_) (fun x s1 hb => ?_)
  · exact h1
  · have h2 := (zN9 hT k1 n1 [58]).bind (f := fun _ s2 => (P s2).bind fun i s3 => if isA ts s3 [[44]] = true then rowR ts P f (ns ++ [x]) (ks ++ [(i : Int)]) (s3.on 1) else .ok (ns ++ [x], ks ++ [(i : Int)]) s3)
     (F := fun z => (O z.2).bind fun y => if seeS ts [44] y.2 = true then rowS ts O f (ns ++ [x]) (ks ++ [(y.1 : Int)]) (onS ts y.2) else some ((ns ++ [x], ks ++ [(y.1 : Int)]), y.2)) (fun _ s2 k2 n2 => ?_) (fun _ s2 hb => ?_)
    · exact h2
    · refine (hP.1 s2 k2 n2).bind (fun i s3 k3 n3 => ?_) (fun i s3 hb => ?_)
      · dsimp only
        rw [zMk];split
        · rename_i hc
          rw [on_sg hT k3 (za0 hc)];exact ih _ _ _ (hT.step k3 (za0 hc)) n3
        · exact ⟨rfl, k3, n3⟩
      · dsimp only
        rw [zMt hb];exact ⟨_, rfl, rfl, rfl⟩
    · dsimp only
      rw [hP.2 s2 hb];show ∃ j, (if seeS ts [44] s2 = true then _ else _) = some j ∧ _
      rw [zMt hb];exact ⟨_, rfl, rfl, rfl⟩
  · dsimp only
    rw [zMm hb, hP.2 s1 hb];show ∃ j, (if seeS ts [44] s1 = true then _ else _) = some j ∧ _
    rw [zMt hb];exact ⟨_, rfl, rfl, rfl⟩
theorem zPd (hT : TsOk ts) {P : St → R3 Nat} {O : Dst → Option (Nat × Dst)} (hP : Gl ts P O) : ∀ (f : Nat) (ns : List (List UInt8)) (ks : List Int) (s : St), s.k < ts.length → Fl s → Rl ts (zM8 ts P f ns ks s) (zM9 ts O f ns ks s.sg) := by
 intro f
 induction f with
 | zero => intro ns ks s _ _; trivial
 | succ f ih =>
  intro ns ks s hk hn;unfold zM8 zM9;rw [zMk];split
  · rename_i hc
    rw [on_sg hT hk (za0 hc)];exact ⟨rfl, hT.step hk (za0 hc), hn⟩
  have h1 := (zO2 hT hk hn ns (kind := 3) (by decide)).bind (f := fun x s2 => (P s2).bind fun i s3 => if isA ts s3 [[124]] = true then zM8 ts P f (ns ++ [x]) (ks ++ [(i : Int)]) (s3.on 1) else .ok (ns ++ [x], ks ++ [(i : Int)], false) s3)
   (F := fun z => (O z.2).bind fun y => if seeS ts [124] y.2 = true then zM9 ts O f (ns ++ [z.1]) (ks ++ [(y.1 : Int)]) (onS ts y.2) else some ((ns ++ [z.1], ks ++ [(y.1 : Int)], false), y.2)) (fun x s2 k2 n2 => ?_) (fun x s2 hb => ?_)
  · exact h1
  · refine (hP.1 s2 k2 n2).bind (fun i s3 k3 n3 => ?_) (fun i s3 hb => ?_)
    · dsimp only
      rw [zMk];split
      · rename_i hc
        rw [on_sg hT k3 (za0 hc)];exact ih _ _ _ (hT.step k3 (za0 hc)) n3
      · exact ⟨rfl, k3, n3⟩
    · dsimp only
      rw [zMt hb];exact ⟨_, rfl, rfl, rfl⟩
  · dsimp only
    rw [hP.2 s2 hb];show ∃ j, (if seeS ts [124] s2 = true then _ else _) = some j ∧ _
    rw [zMt hb];exact ⟨_, rfl, rfl, rfl⟩
theorem zOm {t : Tk} (hg : t.1 = 8 → wordsY.any (fun x => x == t.2.1) = false) : zNj t = zc0 t := by
 unfold zNj zc0 za2;by_cases h2 : t.1 = 2
 · rw [if_pos h2, if_pos h2, if_neg (by simp [h2])]
 · rw [if_neg h2, if_neg h2]
   by_cases h7 : t.1 = 7
   · cases hw : wordsY.any (fun x => x == t.2.1) <;> simp [h7]
   · by_cases h8 : t.1 = 8
     · rw [hg h8]; simp
     · simp [h7, h8]
theorem zOn (hT : TsOk ts) (hg : ∀ k, (tkA ts k).1 = 8 → wordsY.any (fun x => x == (tkA ts k).2.1) = false) {P : St → R3 Nat} {O : Dst → Option (Nat × Dst)} (hP : Gl ts P O) : ∀ g : Nat, Gl ts (zLy ts P g) (zM2 ts O g) := by
 intro g
 induction g with
 | zero => exact ⟨fun s _ _ => trivial, fun s hb => zN6 hb 0⟩
 | succ g ih =>
  refine ⟨fun s hk hn => ?_, fun s hb => zN6 hb (g + 1)⟩;unfold zLy zM2;rw [zMp, if_neg (show ¬false = true by simp), show tkA ts s.sg.k = tkA ts s.k from rfl, zOm (hg s.k)]
  cases hp : zc0 (tkA ts s.k) with
  | some x =>
   dsimp only;rw [on_sg hT hk (zf8 hp)];exact zN3 (s := s.on 1) (hT.step hk (zf8 hp)) hn x
  | none =>
   dsimp only;rw [zMk, zMk, zMk];split
   · rename_i hc
     rw [on_sg hT hk (za0 hc)];refine (hP.1 (s.on 1) (hT.step hk (za0 hc)) hn).bind (fun i s1 k1 n1 => ?_) (fun i s1 hb => ⟨_, rfl, by dsimp only; rw [zMm hb], by dsimp only; rw [zMm hb]⟩);exact (zN9 hT k1 n1 [41]).bind (F := fun z => some (i, z.2)) (fun _ s2 k2 n2 => ⟨rfl, k2, n2⟩) (fun _ s2 hb => ⟨_, rfl, rfl, rfl⟩)
   split
   · rename_i hc
     have k1 := hT.step hk (za0 hc);rw [on_sg hT hk (za0 hc), zMk];split
     · rename_i hd
       have k2 : (s.on 2).k < ts.length := hT.step (k := (s.on 1).k) k1 (za0 hd);rw [on_sg hT k1 (za0 hd)];exact zN3 (s := s.on 2) k2 hn _
     · refine (zQ3 hT hP ts.length [] [] (s.on 1) k1 hn).bind (fun x s1 k2 n2 => ?_) (fun x s1 hb => ⟨_, rfl, by dsimp only; rw [zMm hb, zMh hb], by dsimp only; rw [zMm hb, zMh hb]⟩)
       exact (zN9 hT k2 n2 [125]).bind (F := fun z => some (typS ⟨8, (posS ts s.sg : Nat), bs [], bss x.1, x.2, false⟩ z.2)) (fun _ s2 k3 n3 => zN3 k3 n3 _) (fun _ s2 hb => ⟨_, rfl, by dsimp only; rw [zMh hb], by dsimp only; rw [zMh hb]⟩)
   split
   · rename_i hc
     have k1 := hT.step hk (za0 hc);rw [on_sg hT hk (za0 hc), zMk];split
     · rename_i hd
       have k2 : (s.on 2).k < ts.length := hT.step (k := (s.on 1).k) k1 (za0 hd);rw [on_sg hT k1 (za0 hd)];exact zN3 (s := s.on 2) k2 hn _
     · refine (zPd hT ih ts.length [] [] (s.on 1) k1 hn).bind (fun x s1 k2 n2 => ?_) (fun x s1 hb => ⟨_, rfl, by dsimp only; rw [zMm hb, zMh hb], by dsimp only; rw [zMm hb, zMh hb]⟩)
       exact (zN9 hT k2 n2 [93]).bind (F := fun z => some (typS ⟨9, (posS ts s.sg : Nat), bs [], bss x.1, x.2.1, x.2.2⟩ z.2)) (fun _ s2 k3 n3 => zN3 k3 n3 _) (fun _ s2 hb => ⟨_, rfl, by dsimp only; rw [zMh hb], by dsimp only; rw [zMh hb]⟩)
   · exact Rl.bad_ (by decide) (zMa _ _ _).1 (zMa _ _ _).2
theorem zPz (hT : TsOk ts) (hg : ∀ k, (tkA ts k).1 = 8 → wordsY.any (fun x => x == (tkA ts k).2.1) = false) : ∀ f : Nat, Gl ts (zM5 ts f) (typeS ts f) := by
 intro f
 induction f with
 | zero => exact ⟨fun s _ _ => trivial, fun s hb => zNi hb 0⟩
 | succ f ih =>
  refine ⟨fun s hk hn => ?_, fun s hb => zNi hb (f + 1)⟩;unfold zM5 typeS;rw [zMp, if_neg (show ¬false = true by simp), show s.sg.op = s.op from rfl];split
  · exact Rl.bad_ (by decide) (zMa _ _ _).1 (zMa _ _ _).2
  have hs : s.sg.up = s.up.sg := rfl;rw [hs];refine ((zOn hT hg ih ts.length).1 s.up hk hn).bind (fun i s1 k1 n1 => ?_) (fun i s1 hb => ?_)
  · dsimp only
    rw [zMk];split
    · rename_i hc
      rw [on_sg hT k1 (za0 hc)];refine (ih.1 (s1.on 1) (hT.step k1 (za0 hc)) n1).bind (fun j s2 k2 n2 => ?_) (fun j s2 hb => ?_)
      · refine (zN3 k2 n2 ⟨7, (posS ts s1.sg : Nat), bs [], [], [(i : Int), (j : Int)], false⟩).bind (F := fun z => some (z.1, z.2.down)) (fun l s3 k3 n3 => ⟨rfl, k3, n3⟩) (fun l s3 hb => ⟨_, rfl, rfl, rfl⟩)
      · dsimp only
        exact ⟨_, rfl, by dsimp only; rw [zMh hb]; rfl, by dsimp only; rw [zMh hb]; rfl⟩
    · exact ⟨rfl, k1, n1⟩
  · dsimp only
    rw [zMt hb];exact ⟨_, rfl, rfl, rfl⟩
end
end Go.Proofs.YtidmeodmkcomlaaGreatDoor
namespace Go.Proofs.YtidmeodmkcomlaaGreatDoor
open Go Go.Proofs
section
variable {P : Program} {ops : Array Oper} {Q : Exit → Act → World → Prop} {md : Region.Mode} {S : World → Prop} {D : Nat → Bool}
def zcg (P : Program) (md : Region.Mode) (ops : Array Oper) (Q : Exit → Act → World → Prop) (S : World → Prop) (D : Nat → Bool) : Nat → Array Bool → Act → World → Prop
 | 0, listed, a, w => Region.ready md ops listed = [] ∧ Q .normal a w
 | fuel + 1, listed, a, w =>
  (Region.ready md ops listed = [] → Q .normal a w) ∧
  ∀ i ∈ Region.ready md ops listed, wpOp P ops Q i (fun a' w' => (D i = false → S w') ∧ zcg P md ops Q S D fuel (listed.setIfInBounds i true) a' w') a w
theorem zi3 : ∀ (fuel : Nat) (listed : Array Bool) (a : Act) (w : World), zcg P md ops Q S D fuel listed a w → wpAny P md ops Q fuel listed a w
 | 0, _, _, _, h => h
 | fuel + 1, _, _, _, h => ⟨h.1, fun i hi => wpOp_mono (fun a' w' h' => zi3 fuel _ a' w' h'.2) (h.2 i hi)⟩
def reach (md : Region.Mode) (ops : Array Oper) (i : Nat) : Nat → Nat → Bool
 | 0, _ => false
 | f + 1, j => match ops[j]? with
  | some o => o.after.any fun e => Region.binds md e && (e.on == i || reach md ops i f e.on)
  | none => false
def waits (md : Region.Mode) (ops : Array Oper) (D : Nat → Bool) (i : Nat) : Bool := (List.range ops.size).all fun j => !D j || reach md ops i ops.size j
def ClosedL (md : Region.Mode) (ops : Array Oper) (listed : Array Bool) : Prop := ∀ (j : Nat) (o : Oper), ops[j]? = some o → listed.getD j false = true → ∀ e ∈ o.after, Region.binds md e = true → listed.getD e.on false = true
def zk8 (md : Region.Mode) (ops : Array Oper) (listed : Array Bool) : Bool := (List.range ops.size).all fun j => !(listed.getD j false) || (match ops[j]? with
 | some o => o.after.all fun e => !(Region.binds md e) || listed.getD e.on false
 | none => true)
theorem zss {listed : Array Bool} (h : zk8 md ops listed = true) : ClosedL md ops listed := by
 intro j o ho hl e he hb;unfold zk8 at h;rw [List.all_eq_true] at h;have h1 := h j (List.mem_range.2 (Array.getElem?_eq_some_iff.1 ho).1);rw [ho] at h1;simp only [hl, Bool.not_true, Bool.false_or] at h1;have h2 := Array.all_eq_true_iff_forall_mem.1 h1 e he;simpa [hb] using h2
theorem znb {i : Nat} {listed : Array Bool} (hc : ClosedL md ops listed) (hi : listed.getD i false = false) : ∀ (f j : Nat), reach md ops i f j = true → listed.getD j false = false := by
 intro f
 induction f with
 | zero => intro j h; cases h
 | succ f ih =>
  intro j h;unfold reach at h
  cases ho : ops[j]? with
  | none => rw [ho] at h; cases h
  | some o =>
   rw [ho] at h;obtain ⟨e, he, hb⟩ := Array.any_eq_true'.1 h;simp only [zK6, Bool.or_eq_true, beq_iff_eq] at hb
   cases hl : listed.getD j false with
   | false => rfl
   | true =>
    have h1 := hc j o ho hl e he hb.1;rcases hb.2 with h2 | h2
    · rw [h2, hi] at h1; cases h1
    · rw [ih _ h2] at h1; cases h1
theorem zll {i j : Nat} {oj : Oper} {listed : Array Bool} (hc : ClosedL md ops listed) (hi : listed.getD i false = false) {f : Nat} (hr : reach md ops i f j = true) (hoj : ops[j]? = some oj) (hall : ∀ e ∈ oj.after, Region.binds md e = true → listed.getD e.on false = true) : False := by
 cases f with
 | zero => cases hr
 | succ f =>
  unfold reach at hr;rw [hoj] at hr;obtain ⟨e, he, hb⟩ := Array.any_eq_true'.1 hr;simp only [zK6, Bool.or_eq_true, beq_iff_eq] at hb;have h1 := hall e he hb.1;rcases hb.2 with h2 | h2
  · rw [h2, hi] at h1; cases h1
  · rw [znb hc hi _ _ h2] at h1; cases h1
theorem ClosedL.set {listed : Array Bool} (hc : ClosedL md ops listed) {j : Nat} {oj : Oper} (hoj : ops[j]? = some oj) (hall : ∀ e ∈ oj.after, Region.binds md e = true → listed.getD e.on false = true) : ClosedL md ops (listed.setIfInBounds j true) := by
 intro k ok hok hl e he hb;by_cases hjk : j = k
 · subst hjk
   rw [hoj] at hok;injection hok with hok
   subst hok;exact getD_set_true (hall e he hb)
 · rw [getD_set_ne false hjk] at hl
   exact getD_set_true (hc k ok hok hl e he hb)
theorem zqd {i : Nat} {oi : Oper} {v : Value} (hi : ops[i]? = some oi) (hsel : ∀ (j : Nat) (o : Oper) cs b, ops[j]? = some o → o.op ≠ .select cs b)
 (hQ : ∀ c a w, Q (.panic c) (a.put oi.dst v) w → Q (.panic c) a w) (hD : ∀ (j : Nat), j < ops.size → D j = true → reach md ops i ops.size j = true) :
 ∀ (fuel : Nat) (listed : Array Bool) (a : Act) (w : World),
  (∀ j oj, ops[j]? = some oj → j ≠ i → listed.getD j true = false → (∀ e ∈ oj.after, Region.binds md e = true → e.on ≠ i) → oi.apart ops oj = true) →
  ClosedL md ops listed →
  i ∈ Region.ready md ops listed → YieldsIf P ops S oi v a → S w → (D i = false) →
  zcg P md ops Q S D fuel (listed.setIfInBounds i true) (a.put oi.dst v) w → zcg P md ops Q S D (fuel + 1) listed a w := by
 intro fuel
 induction fuel with
 | zero =>
  intro listed a w _ _ hr hy hS _ H;refine ⟨fun h => (by rw [h] at hr; cases hr), fun j hj => ?_⟩;by_cases hji : j = i
  · subst hji; exact hy.wpOp hi hS ⟨fun _ => hS, H⟩
  · have := ready_mono hj hji
    rw [H.1] at this;cases this
 | succ fuel ih =>
  intro listed a w hfree hun0 hr hy hS hDi H;refine ⟨fun h => (by rw [h] at hr; cases hr), fun j hj => ?_⟩;by_cases hji : j = i
  · subst hji; exact hy.wpOp hi hS ⟨fun _ => hS, H⟩
  · have h1 := H.2 j (ready_mono hj hji)
    obtain ⟨hjun, oj, hoj, hall⟩ := mem_ready.1 hj
    have hnot : ∀ e ∈ oj.after, Region.binds md e = true → e.on ≠ i := fun e he hb heq => by
     have h1 := hall e he hb;have h0 := (mem_ready.1 hr).1;rw [heq] at h1;rcases Nat.lt_or_ge i listed.size with h' | h'
     · simp [h'] at h0 h1; rw [h0] at h1; cases h1
     · simp [Array.getElem?_eq_none h'] at h1
    have hi0 : listed.getD i false = false := by
     have h0 := (mem_ready.1 hr).1;rcases Nat.lt_or_ge i listed.size with h' | h'
     · simp [h'] at h0 ⊢; exact h0
     · simp [Array.getElem?_eq_none h'] at h0
    have hDj : D j = false := by
     cases hd : D j with
     | false => rfl
     | true => exact (zll hun0 hi0 (hD j (Array.getElem?_eq_some_iff.1 hoj).1 hd) hoj hall).elim
    have h2 := wpOp_putIf hoj (hfree j oj hoj hji hjun hnot) (fun cs b => hsel i oi cs b hi) (fun cs b => hsel j oj cs b hoj) hQ hy h1
    have hfree' : ∀ k ok, ops[k]? = some ok → k ≠ i → (listed.setIfInBounds j true).getD k true = false →
     (∀ e ∈ ok.after, Region.binds md e = true → e.on ≠ i) → oi.apart ops ok = true := fun k ok hk hki hun hno => by
     refine hfree k ok hk hki ?_ hno;by_cases hjk : j = k
     · subst hjk; exact hjun
     · rw [getD_set_ne true hjk] at hun; exact hun
    have hun' := hun0.set hoj hall;refine wpOp_mono (fun a' w' h3 => ⟨h3.2.1, ih (listed.setIfInBounds j true) a' w' hfree' hun' (ready_mono hr (Ne.symm hji)) h3.1 (h3.2.1 hDj) hDi ?_⟩) h2;rw [Array.setIfInBounds_comm _ _ hji];exact h3.2.2
theorem zsh {i : Nat} {oi : Oper} {v : Value} {fuel : Nat} {listed : Array Bool} {a : Act} {w : World} (hi : ops[i]? = some oi)
 (hs : Region.noSelect ops = true) (hf : Region.free md ops listed i = true) (hr : (Region.ready md ops listed).contains i = true) (hw : waits md ops D i = true) (hl : zk8 md ops listed = true) (hDi : D i = false)
 (hQ : ∀ c a w, Q (.panic c) (a.put oi.dst v) w → Q (.panic c) a w) (hy : YieldsIf P ops S oi v a) (hS : S w)
 (h : zcg P md ops Q S D fuel (listed.setIfInBounds i true) (a.put oi.dst v) w) : zcg P md ops Q S D (fuel + 1) listed a w :=
 zqd hi (Region.noSelect_spec hs) hQ (fun j hj hd => by unfold waits at hw; rw [List.all_eq_true] at hw; simpa [hd] using hw j (List.mem_range.2 hj)) fuel listed a w (Region.free_spec hi hf) (zss hl) (by simpa using hr) hy hS hDi h
def AllReadyG (P : Program) (md : Region.Mode) (ops : Array Oper) (Q : Exit → Act → World → Prop) (S : World → Prop) (D : Nat → Bool) (fuel : Nat) (listed : Array Bool) (a : Act) (w : World) (rs : List Nat) : Prop :=
 ∀ i ∈ rs, wpOp P ops Q i (fun a' w' => (D i = false → S w') ∧ zcg P md ops Q S D fuel (listed.setIfInBounds i true) a' w') a w
theorem AllReadyG.nil {fuel : Nat} {listed : Array Bool} {a : Act} {w : World} : AllReadyG P md ops Q S D fuel listed a w [] := fun _ h => by cases h
theorem AllReadyG.held {fuel : Nat} {listed : Array Bool} {a : Act} {w : World} {i : Nat} {o : Oper} {rs : List Nat} (ho : ops[i]? = some o)
 (h : ∀ K' : Act → World → Prop, Shut (∀ a w, S w → (S w → zcg P md ops Q S D fuel (listed.setIfInBounds i true) a w) → K' a w) → if Region.wanted o (yielded ops a.tmps) = true then Oper.wp P o a w K' Q else K' (a.put o.dst undef) w)
 (hs : AllReadyG P md ops Q S D fuel listed a w rs) : AllReadyG P md ops Q S D fuel listed a w (i :: rs) := fun j hj => by
 rcases List.mem_cons.1 hj with rfl | hj
 · exact wpOp_step ho (fun K' hK => h K' (fun a w hS hW => hK a w ⟨fun _ => hS, hW hS⟩))
 · exact hs j hj
theorem AllReadyG.loose {fuel : Nat} {listed : Array Bool} {a : Act} {w : World} {i : Nat} {o : Oper} {rs : List Nat} (ho : ops[i]? = some o) (hd : D i = true)
 (h : ∀ K' : Act → World → Prop, Shut (∀ a w, zcg P md ops Q S D fuel (listed.setIfInBounds i true) a w → K' a w) → if Region.wanted o (yielded ops a.tmps) = true then Oper.wp P o a w K' Q else K' (a.put o.dst undef) w)
 (hs : AllReadyG P md ops Q S D fuel listed a w rs) : AllReadyG P md ops Q S D fuel listed a w (i :: rs) := fun j hj => by
 rcases List.mem_cons.1 hj with rfl | hj
 · exact wpOp_step ho (fun K' hK => h K' (fun a w hW => hK a w ⟨fun hf => (by rw [hd] at hf; cases hf), hW⟩))
 · exact hs j hj
theorem zj2 {rs : List Nat} {fuel : Nat} {listed : Array Bool} {a : Act} {w : World} (hr : Region.ready md ops listed = rs) (hne : rs ≠ [])
 (h : AllReadyG P md ops Q S D fuel listed a w rs) : zcg P md ops Q S D (fuel + 1) listed a w := ⟨fun h0 => absurd (hr ▸ h0) hne, hr ▸ h⟩
theorem zah {listed : Array Bool} {a : Act} {w : World} (hr : Region.ready md ops listed = []) (h : Q .normal a w) :
 ∀ fuel, zcg P md ops Q S D fuel listed a w
 | 0 => ⟨hr, h⟩
 | _ + 1 => ⟨fun _ => h, by rw [hr]; simp⟩
theorem tkG (i : Nat) {oi : Oper} {v : Value} {fuel : Nat} {listed : Array Bool} {a : Act} {w : World}
 (h : zcg P md ops Q S D fuel (listed.setIfInBounds i true) (a.put oi.dst v) w)
 (hi : ops[i]? = some oi := by simp only [gA, gB, gC]; rfl)
 (hs : Region.noSelect ops = true := by kernel_rfl) (hf : Region.free md ops listed i = true := by kernel_rfl) (hr : (Region.ready md ops listed).contains i = true := by kernel_rfl) (hw1 : waits md ops D i = true := by kernel_rfl) (hl : zk8 md ops listed = true := by kernel_rfl) (hDi : D i = false := by kernel_rfl)
 (hQ : ∀ c a w, Q (.panic c) (a.put oi.dst v) w → Q (.panic c) a w := by exact fun _ _ _ h => h) (hw : Region.wanted oi (yielded ops a.tmps) = true := by rfl)
 (hy : ∀ w, S w → (execOp a.eval oi).run P w = .ok (.value v) w := by (intro w hSw; (try dsimp only at hSw); go_simp; try with_reducible rfl)) (hS : S w := by assumption) :
 zcg P md ops Q S D (fuel + 1) listed a w := zsh hi hs hf hr hw1 hl hDi hQ (.inl ⟨hw, hy⟩) hS h
theorem rdG (i : Nat) {o : Oper} {fuel : Nat} {listed : Array Bool} {a : Act} {w : World}
 (h : ∀ K' : Act → World → Prop, Shut (∀ a w, S w → (S w → zcg P md ops Q S D fuel (listed.setIfInBounds i true) a w) → K' a w) → if Region.wanted o (yielded ops a.tmps) = true then Oper.wp P o a w K' Q else K' (a.put o.dst undef) w)
 (hr : Region.ready md ops listed = [i] := by kernel_rfl) (ho : ops[i]? = some o := by simp only [gA, gB, gC]; rfl) :
 zcg P md ops Q S D (fuel + 1) listed a w := zj2 hr (by simp) (AllReadyG.held ho h AllReadyG.nil)
theorem rdL (i : Nat) {o : Oper} {fuel : Nat} {listed : Array Bool} {a : Act} {w : World}
 (h : ∀ K' : Act → World → Prop, Shut (∀ a w, zcg P md ops Q S D fuel (listed.setIfInBounds i true) a w → K' a w) → if Region.wanted o (yielded ops a.tmps) = true then Oper.wp P o a w K' Q else K' (a.put o.dst undef) w)
 (hr : Region.ready md ops listed = [i] := by kernel_rfl) (ho : ops[i]? = some o := by simp only [gA, gB, gC]; rfl) (hd : D i = true := by kernel_rfl) :
 zcg P md ops Q S D (fuel + 1) listed a w := zj2 hr (by simp) (AllReadyG.loose ho hd h AllReadyG.nil)
theorem za5 {id : Nat} {a : Act} {w : World} (D : Nat → Bool) (hm : P.follows .mixedOrders = true) (hS : S w.drew)
 (h : S w.drew → zcg P .any ops Q S D ops.size (Array.replicate ops.size false) a w.drew) : (Code.region id ops true).wp P Q a w :=
 wp_region_any hm (zi3 _ _ _ _ (h hS))
end
end Go.Proofs.YtidmeodmkcomlaaGreatDoor
namespace Go.Proofs.YtidmeodmkcomlaaGreatDoor
open Go Go.Proofs Go.RowKit
@[simp] theorem R3.okB {α β : Type} (i : α) (s : St) (f : α → St → R3 β) : (R3.ok i s).bind f = f i s := rfl
@[simp] theorem R3.badB {α β : Type} (e p : Nat) (f : α → St → R3 β) : (R3.bad e p : R3 α).bind f = .bad e p := rfl
@[simp] theorem R3.unB {α β : Type} (f : α → St → R3 β) : (R3.un : R3 α).bind f = .un := rfl
theorem zub {ts : Nat} {s s' : St} {x : TermD} {i : Nat} (h : newT s x = .ok i s') (hk : s.k < ts) : s.k ≤ s'.k ∧ s'.k < ts ∧ s'.op = s.op := by
 obtain ⟨_, rfl⟩ := zcn h;exact ⟨zJw _, hk, rfl⟩
theorem zts {ts : Nat} {s s' : St} {x : TypD} {i : Nat} (h : newY s x = .ok i s') (hk : s.k < ts) : s.k ≤ s'.k ∧ s'.k < ts ∧ s'.op = s.op := by
 obtain ⟨_, rfl⟩ := zgm h;exact ⟨zJw _, hk, rfl⟩
def kAt (B : PE) (w : World) : Nat := match w.cell? ⟨B.pb, 1, none⟩ with
 | some v => (intOf v).toNat
 | none => 0
theorem PS.kAt {B : PE} {w : World} {s : St} (h : PS B w s) : kAt B w = s.k := by
 have c1 := h.blk.cell 1;simp only [PE.cells, gA, gB, gC] at c1;unfold YtidmeodmkcomlaaGreatDoor.kAt;rw [c1];simp [intOf]
theorem nowR {ts : List Tk} {B : PE} {w : World} {s : St} (hBts : B.ts = ts) (h : PS B w s) (hk : s.k < ts.length) : Calls Tryz.prog 70 #[B.ptr] w fun e w' => e = .returned (tokV (tkA ts s.k)) ∧ Below w.heap.size w w' := by
 subst hBts;exact zbe h hk
theorem Res.lift {α : Type} {V : α → Value} {B : PE} {w w1 w' : World} {s s1 : St} {r : R3 α} {e : Ending} (h : Res V B w1 s1 r e w') (a : Aft B w s1 w1) (ho : s1.op = s.op := by rfl) : Res V B w s r e w' := by
 cases r with
 | ok i s' => exact ⟨h.1, a.trans h.2⟩
 | bad c p =>
  obtain ⟨e1, s2, e2, a2⟩ := h;exact ⟨e1, s2, e2.trans ho, a.trans a2⟩
 | un => trivial
theorem zlt {B : PE} {w : World} {s : St} (h : PS B w s) (kind pos k1 : Int) (name : ByteArray) :
 Calls Tryz.prog 114 #[B.ptr, .agg #[.int .i64 kind, .int .i64 pos, .string name, .int .i64 0, .int .u64 0, .slice none 0 0, .slice (some ⟨w.heap.size, 0, none⟩) 1 1, .slice none 0 0]] (w.alloc (.cells #[.int .i64 k1] 3)) (Res natV B w s (newT s ⟨kind, pos, name, 0, 0, [], [k1], []⟩)) := by
 have hB0 : Below w.heap.size w (w.alloc (.cells #[.int .i64 k1] 3)) := (zJx _ _).alloc (zJw _) _;have hX : Blk (w.alloc (.cells #[.int .i64 k1] 3)) w.heap.size 3 #[.int .i64 k1] := Blk.new w 3 _;refine (newTK (h.below hB0) kind pos name [k1] 1 1 w.heap.size rfl (by decide) hX.lt (fun j u hu => by rw [hX.cell j]; simpa using hu)).mono (fun e w' q => ?_);exact q.lift (h.aft hB0)
theorem zlr {B : PE} {w : World} {s : St} (h : PS B w s) (kind pos k1 k2 : Int) (name : ByteArray) :
 Calls Tryz.prog 114 #[B.ptr, .agg #[.int .i64 kind, .int .i64 pos, .string name, .int .i64 0, .int .u64 0, .slice none 0 0, .slice (some ⟨w.heap.size, 0, none⟩) 2 2, .slice none 0 0]] (w.alloc (.cells #[.int .i64 k1, .int .i64 k2] 3)) (Res natV B w s (newT s ⟨kind, pos, name, 0, 0, [], [k1, k2], []⟩)) := by
 have hB0 : Below w.heap.size w (w.alloc (.cells #[.int .i64 k1, .int .i64 k2] 3)) := (zJx _ _).alloc (zJw _) _;have hX : Blk (w.alloc (.cells #[.int .i64 k1, .int .i64 k2] 3)) w.heap.size 3 #[.int .i64 k1, .int .i64 k2] := Blk.new w 3 _;refine (newTK (h.below hB0) kind pos name [k1, k2] 2 2 w.heap.size rfl (by decide) hX.lt (fun j u hu => by rw [hX.cell j]; simpa using hu)).mono (fun e w' q => ?_);exact q.lift (h.aft hB0)
end Go.Proofs.YtidmeodmkcomlaaGreatDoor
