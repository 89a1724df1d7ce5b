/- Where it is too deep: 256 bytes or more are read by then. Whether two trees are the same, as the program asks it: rows of parts, side by -/
import Derived.Test.YtidmeodmkcomlaaGreatDoorK31
import Derived.Test.YtidmeodmkcomlaaGreatDoorK33
namespace Go.Proofs.YtidmeodmkcomlaaGreatDoor
open Go Go.Proofs Go.RowKit
def Bd {α : Type} (n d : Nat) (s : St) : R3 α → Prop
 | .ok _ s' => s.k + d ≤ s'.k ∧ s'.k < n ∧ s'.op = s.op
 | .bad c q => c = 5 → 256 ≤ q
 | .un => True
structure Far (ts : List Tk) : Prop where
 ok : TsOk ts
 pl : ∀ k, k < ts.length → k ≤ (tkA ts k).2.2
section
variable {ts : List Tk} {α β : Type} {s : St}
theorem Bd.bind {d : Nat} {P : R3 α} {f : α → St → R3 β} (h : Bd ts.length d s P) (k : ∀ i s1, s.k + d ≤ s1.k → s1.k < ts.length → s1.op = s.op → Bd ts.length 0 s1 (f i s1)) : Bd ts.length 0 s (P.bind f) := by
 cases P with
 | ok i s1 =>
  obtain ⟨h1, h2, h3⟩ := h;have := k i s1 h1 h2 h3;show Bd ts.length 0 s (f i s1)
  cases hf : f i s1 with
  | ok j s2 =>
   rw [hf] at this;obtain ⟨g1, g2, g3⟩ := this;exact ⟨by omega, g2, by omega⟩
  | bad e p => rw [hf] at this; exact this
  | un => trivial
 | bad e p => exact h
 | un => trivial
theorem Bd.on {j : Nat} {P : R3 α} (h : Bd ts.length 0 (s.on j) P) : Bd ts.length 0 s P := by
 cases P with
 | ok i s1 => exact ⟨by have h1 : s.k + j + 0 ≤ s1.k := h.1; omega, h.2⟩
 | bad e p => exact h
 | un => trivial
theorem Bd.no {d c q : Nat} (h : c ≠ 5) : Bd ts.length d s (.bad c q : R3 α) := fun e => absurd e h
theorem zi8 (hF : Far ts) (hk : s.k < ts.length) (h0 : (tkA ts s.k).1 ≠ 0) {i : α} : Bd ts.length 1 s (.ok i (s.on 1)) := ⟨zJw _, hF.ok.step hk h0, rfl⟩
theorem Bd.ok_ (hk : s.k < ts.length) {i : α} : Bd ts.length 0 s (.ok i s) := ⟨zJw _, hk, rfl⟩
theorem Bd.weak {d : Nat} {P : R3 α} (h : Bd ts.length d s P) : Bd ts.length 0 s P := by
 cases P with
 | ok i s1 => exact ⟨by have := h.1; omega, h.2⟩
 | bad e p => exact h
 | un => trivial
theorem zev (hF : Far ts) {kind : Nat} (h0 : kind ≠ 0) (hk : s.k < ts.length) : Bd ts.length 1 s (zag ts kind s) := by
 unfold zag;split
 · exact zi8 hF hk (by omega)
 · exact Bd.no (by decide)
theorem zbk (hF : Far ts) {x : List UInt8} (hk : s.k < ts.length) : Bd ts.length 1 s (mustM ts x s) := by
 unfold mustM;split
 · rename_i h; exact zi8 hF hk (za0 h)
 · exact Bd.no (by decide)
theorem zq5 (hF : Far ts) {o kind : Nat} (h0 : kind ≠ 0) (hk : s.k < ts.length) : Bd ts.length 1 s (ownM ts o kind s) := by
 unfold ownM;have ht := zev hF h0 hk (s := s);unfold zag at ht ⊢;by_cases he : (tkA ts s.k).1 = kind
 · rw [if_pos he] at ht ⊢
   show Bd ts.length 1 s (if _ then _ else _)
   split
   · exact Bd.no (by decide)
   · exact ht
 · rw [if_neg he]; exact Bd.no (by decide)
theorem zd1 (hk : s.k < ts.length) {x : TermD} : Bd ts.length 0 s (newT s x) := by
 unfold newT;split
 · exact ⟨zJw _, hk, rfl⟩
 · exact Bd.no (by decide)
theorem znq (hk : s.k < ts.length) {x : TypD} : Bd ts.length 0 s (newY s x) := by
 unfold newY;split
 · exact ⟨zJw _, hk, rfl⟩
 · exact Bd.no (by decide)
def B0 (ts : List Tk) (P : St → R3 Nat) : Prop := ∀ s : St, s.k < ts.length → s.op ≤ s.k → Bd ts.length 0 s (P s)
def B1 (ts : List Tk) (P : St → R3 Nat) : Prop := ∀ s : St, s.k < ts.length → s.op ≤ s.k + 1 → Bd ts.length 0 s (P s)
variable {P E T : St → R3 Nat}
theorem zwa (hF : Far ts) (hP : B0 ts P) (o : Nat) (sign : List UInt8) : ∀ (f : Nat) (ns : List (List UInt8)) (ks : List Int) (s : St), s.k < ts.length → s.op ≤ s.k + 1 → Bd ts.length 0 s (zbc ts P o sign f ns ks s) := by
 intro f
 induction f with
 | zero => intro ns ks s _ _; trivial
 | succ f ih =>
  intro ns ks s hk ho;unfold zbc;refine (zq5 hF (by decide) hk).bind (fun x s1 a1 b1 c1 => (zbk hF b1).bind (fun _ s2 a2 b2 c2 => (hP s2 b2 (by omega)).bind (fun i s3 a3 b3 c3 => ?_)));split
  · rename_i h; exact (zi8 hF b3 (za0 h)).weak
  · exact (zbk hF b3).bind (fun _ s4 a4 b4 c4 => ih _ _ s4 b4 (by omega))
theorem zp1 (hF : Far ts) (hP : B0 ts P) (o : Nat) (sign : List UInt8) (s : St) (hk : s.k < ts.length) (ho : s.op ≤ s.k + 1) : Bd ts.length 0 s (zan ts P o sign s) := by
 unfold zan;split
 · rename_i h; exact (zi8 hF hk (za0 h)).weak
 · exact zwa hF hP o sign _ _ _ s hk ho
theorem on_le {s : St} (ho : s.op ≤ s.k + 1) : (s.on 1).op ≤ (s.on 1).k := ho
theorem zja {s : St} (ho : s.op ≤ s.k + 1) : (s.on 1).op ≤ (s.on 1).k + 1 := Nat.le_succ_of_le ho
theorem zln (hF : Far ts) (hT : B0 ts T) : B1 ts (zay ts T) := by
 intro s hk ho;unfold zay;split
 · rename_i h
   exact Bd.on ((hT (s.on 1) (hF.ok.step hk (za0 h)) (on_le ho)).bind (fun i s1 a b c => (zbk hF b).bind (fun _ s2 a2 b2 c2 => Bd.ok_ b2)))
 split
 · rename_i h
   exact Bd.on ((zp1 hF hT _ _ (s.on 1) (hF.ok.step hk (za0 h)) (zja ho)).bind (fun x s1 a b c => znq b))
 split
 · rename_i x hx
   exact Bd.on (znq (s := s.on 1) (hF.ok.step hk (zf8 hx)))
 · exact Bd.no (by decide)
theorem zHp (hF : Far ts) (x : Vr) (s : St) (hk : s.k < ts.length) : Bd ts.length 0 s (itemM ts x s) := by
 unfold itemM;split
 · rename_i h; exact (zi8 hF hk (za0 h)).weak
 refine Bd.bind (d := 0) ?_ (fun _ s1 a1 b1 c1 => ?_)
 · split
   · exact Bd.ok_ hk
   · exact (zbk hF hk).weak
 split
 · rename_i h
   exact Bd.on ((zbk hF (s := s1.on 1) (hF.ok.step b1 (za0 h))).bind (fun _ s2 a2 b2 c2 => Bd.ok_ b2))
 · exact (zq5 hF (by decide) b1).bind (fun n s2 a2 b2 c2 => Bd.ok_ b2)
theorem zsw (hF : Far ts) (hT : B0 ts T) : ∀ (f : Nat) (x : Vr) (r : List Vr) (s : St), s.k < ts.length → s.op ≤ s.k + 1 → Bd ts.length 0 s (zaq ts T f x r s) := by
 intro f
 induction f with
 | zero => intro x r s _ _; trivial
 | succ f ih =>
  intro x r s hk ho;unfold zaq;refine (zHp hF x s hk).bind (fun y s1 a1 b1 c1 => ?_);split
  · refine (znq b1).bind (fun i s2 a2 b2 c2 => ?_)
    split
    · exact Bd.ok_ b2
    · exact ih _ _ s2 b2 (by omega)
  · split
    · rename_i h
      exact Bd.on (ih _ _ (s1.on 1) (hF.ok.step b1 (za0 h)) (by show s1.op ≤ s1.k + 1 + 1; omega))
    · exact (zln hF hT s1 b1 (by omega)).bind (fun i s2 a2 b2 c2 => ih _ _ s2 b2 (by omega))
theorem zyn (hF : Far ts) (hT : B0 ts T) : B1 ts (zak ts T) := by
 intro s hk ho;unfold zak;split
 · rename_i h
   unfold zbp;exact Bd.on (zsw hF hT _ _ _ (s.on 1) (hF.ok.step hk (za0 h)) (zja ho))
 · exact zln hF hT s hk ho
theorem zu1 (hF : Far ts) (hk : s.k < ts.length) (ho : s.op ≤ s.k) {A : R3 Nat} (h : Bd ts.length 0 s A) : Bd ts.length 0 s (if s.op = 256 then .bad 5 (posA ts s) else A) := by
 split
 · exact fun _ => by have := hF.pl s.k hk; show 256 ≤ (tkA ts s.k).2.2; omega
 · exact h
theorem zuw (hF : Far ts) : ∀ f, B0 ts (typeM ts f) := by
 intro f
 induction f with
 | zero => intro s _ _; trivial
 | succ f ih =>
  intro s hk ho;unfold typeM;refine zu1 hF hk ho ?_;have h1 := zyn hF ih s.up hk (by show s.op + 1 ≤ s.k + 1; omega)
  cases hM : zak ts (typeM ts f) s.up with
  | bad e p => rw [hM] at h1; exact h1
  | un => trivial
  | ok i s1 =>
   rw [hM] at h1;obtain ⟨a1, b1, c1⟩ := h1;have a1' : s.k + 0 ≤ s1.k := a1;have c1' : s1.op = s.op + 1 := c1;show Bd ts.length 0 s (if _ then _ else _)
   split
   · rename_i h
     have h2 := ih (s1.on 1) (hF.ok.step b1 (za0 h)) (by show s1.op ≤ s1.k + 1; omega)
     cases hM2 : typeM ts f (s1.on 1) with
     | bad e p => rw [hM2] at h2; exact h2
     | un => trivial
     | ok j s2 =>
      rw [hM2] at h2;obtain ⟨a2, b2, c2⟩ := h2;have a2' : s1.k + 1 + 0 ≤ s2.k := a2;have c2' : s2.op = s1.op := c2;show Bd ts.length 0 s ((newY s2 _).bind _)
      unfold newY;split
      · exact ⟨by show s.k + 0 ≤ s2.k; omega, b2, by show s2.op - 1 = s.op; omega⟩
      · exact Bd.no (by decide)
   · exact ⟨by show s.k + 0 ≤ s1.k; omega, b1, by show s1.op - 1 = s.op; omega⟩
theorem zws (hF : Far ts) (hE : B0 ts E) (hY : B0 ts T) (s : St) (hk : s.k < ts.length) (ho : s.op ≤ s.k + 1) (h0 : (tkA ts s.k).1 ≠ 0) : Bd ts.length 0 s (zas ts E T s) := by
 unfold zas;have hs : (s.on 1).k = s.k + 1 ∧ (s.on 1).op = s.op := ⟨rfl, rfl⟩;refine Bd.on ((hE (s.on 1) (hF.ok.step hk h0) (on_le ho)).bind (fun i s1 a1 b1 c1 => ?_));split
 · rename_i h; exact (zi8 hF b1 (za0 h)).weak
 refine (zbk hF b1).bind (fun _ s2 a2 b2 c2 => (hY s2 b2 (by omega)).bind (fun j s3 a3 b3 c3 => ?_));split
 · rename_i h
   exact Bd.on ((hY (s3.on 1) (hF.ok.step b3 (za0 h)) (by show s3.op ≤ s3.k + 1; omega)).bind (fun l s4 a4 b4 c4 => (zbk hF b4).bind (fun _ s5 a5 b5 c5 => zd1 b5)))
 · exact (zbk hF b3).bind (fun _ s5 a5 b5 c5 => zd1 b5)
theorem zGs (hF : Far ts) (hE : B0 ts E) (hY : B0 ts T) : B1 ts (atomM ts E T) := by
 intro s hk ho;unfold atomM;split
 · rename_i h; exact zws hF hE hY s hk ho (za0 h)
 split
 · rename_i h
   unfold zbu;exact Bd.on ((zp1 hF hE _ _ (s.on 1) (hF.ok.step hk (za0 h)) (zja ho)).bind (fun x s1 a b c => zd1 b))
 split
 · rename_i x hx
   exact Bd.on (zd1 (s := s.on 1) (hF.ok.step hk (zfm hx)))
 · exact Bd.no (by decide)
theorem zEb (hF : Far ts) : ∀ (f left : Nat) (s : St), s.k < ts.length → Bd ts.length 0 s (postL ts f left s) := by
 intro f
 induction f with
 | zero => intro left s _; trivial
 | succ f ih =>
  intro left s hk;unfold postL;split
  · rename_i h
    exact Bd.on ((zev hF (by decide) (s := s.on 1) (hF.ok.step hk (za0 h))).bind (fun t s1 a1 b1 c1 => (zd1 b1).bind (fun i s2 a2 b2 c2 => ih i s2 b2)))
  · exact Bd.ok_ hk
theorem zu5 (hF : Far ts) (hE : B0 ts E) (hY : B0 ts T) : B1 ts (postM ts E T) := fun s hk ho => (zGs hF hE hY s hk ho).bind (fun i s1 _a b _c => zEb hF _ i s1 b)
theorem zu3 (hF : Far ts) (hE : B0 ts E) (hY : B0 ts T) : B1 ts (unitM ts E T) := by
 intro s hk ho;unfold unitM;split
 · exact Bd.on ((zu5 hF hE hY (s.on 1) (hF.ok.step hk (by omega)) (zja ho)).bind (fun i s1 a b c => zd1 b))
 · exact zu5 hF hE hY s hk ho
theorem zyj (hF : Far ts) (hE : B0 ts E) (hY : B0 ts T) : ∀ (f left : Nat) (s : St), s.k < ts.length → s.op ≤ s.k + 1 → Bd ts.length 0 s (zat ts E T f left s) := by
 intro f
 induction f with
 | zero => intro left s _ _; trivial
 | succ f ih =>
  intro left s hk ho;unfold zat;split
  · exact (zu3 hF hE hY s hk ho).bind (fun i s1 a1 b1 c1 => (zd1 b1).bind (fun j s2 a2 b2 c2 => ih j s2 b2 (by omega)))
  · exact Bd.ok_ hk
theorem zE9 (hF : Far ts) (hE : B0 ts E) (hY : B0 ts T) : B1 ts (zb0 ts E T) := fun s hk ho => (zu3 hF hE hY s hk ho).bind (fun i s1 a b c => zyj hF hE hY _ i s1 b (by omega))
theorem bd_op (hF : Far ts) (hP : B1 ts P) (left : Nat) (s : St) (hk : s.k < ts.length) (ho : s.op ≤ s.k + 1) (h0 : (tkA ts s.k).1 ≠ 0) : Bd ts.length 0 s (opM ts P left s) := by
 unfold opM;exact Bd.on ((hP (s.on 1) (hF.ok.step hk h0) (zja ho)).bind (fun i s1 a b c => zd1 b))
theorem zH6 (hF : Far ts) (hP : B1 ts P) (sg : List (List UInt8)) : ∀ (f left : Nat) (s : St), s.k < ts.length → s.op ≤ s.k + 1 → Bd ts.length 0 s (rowL ts P sg f left s) := by
 intro f
 induction f with
 | zero => intro left s _ _; trivial
 | succ f ih =>
  intro left s hk ho;unfold rowL;split
  · rename_i h
    exact (bd_op hF hP left s hk ho (za0 h)).bind (fun i s1 a b c => ih i s1 b (by omega))
  · exact Bd.ok_ hk
theorem zpu (hF : Far ts) (hP : B1 ts P) (sg : List (List UInt8)) : B1 ts (rowM ts P sg) := fun s hk ho => (hP s hk ho).bind (fun i s1 a b c => zH6 hF hP sg _ i s1 b (by omega))
theorem ztg (hF : Far ts) (hE : B0 ts E) (hY : B0 ts T) : B1 ts (joinM ts E T) := zpu hF (zpu hF (zpu hF (zE9 hF hE hY) _) _) _
theorem zw3 (hF : Far ts) (hE : B0 ts E) (hY : B0 ts T) : B1 ts (zad ts E T) := by
 intro s hk ho;refine (ztg hF hE hY s hk ho).bind (fun i s1 a b c => ?_);split
 · rename_i h; exact bd_op hF (ztg hF hE hY) i s1 b (by omega) (za0 h)
 · exact Bd.ok_ b
theorem zza (hF : Far ts) (hE : B0 ts E) (o : Nat) : ∀ (f : Nat) (ns : List (List UInt8)) (ks : List Int) (s : St), s.k < ts.length → s.op ≤ s.k + 1 → Bd ts.length 0 s (zbz ts E o f ns ks s) := by
 intro f
 induction f with
 | zero => intro ns ks s _ _; trivial
 | succ f ih =>
  intro ns ks s hk ho;unfold zbz;split
  · rename_i h
    have hk1 := hF.ok.step hk (za0 h);split
    · rename_i h2
      have hs : (s.on 2).k = s.k + 2 ∧ (s.on 2).op = s.op := ⟨rfl, rfl⟩;exact Bd.on ((zbk hF (s := s.on 2) (hF.ok.step hk1 (za0 h2))).bind (fun _ s1 a1 b1 c1 => (hE s1 b1 (by omega)).bind (fun i s2 a2 b2 c2 => Bd.ok_ b2)))
    · have hs : (s.on 1).k = s.k + 1 ∧ (s.on 1).op = s.op := ⟨rfl, rfl⟩
      exact Bd.on ((zq5 hF (by decide) (s := s.on 1) hk1).bind (fun x s1 a1 b1 c1 => (zev hF (by decide) b1).bind (fun t s2 a2 b2 c2 => (zbk hF b2).bind (fun _ s3 a3 b3 c3 => (hE s3 b3 (by omega)).bind (fun i s4 a4 b4 c4 => ih _ _ s4 b4 (by omega))))))
  · exact Bd.ok_ hk
theorem zEt (hF : Far ts) (hE : B0 ts E) (hY : B0 ts T) : B1 ts (zba ts E T) := by
 intro s hk ho;have hs : (s.on 1).k = s.k + 1 ∧ (s.on 1).op = s.op := ⟨rfl, rfl⟩;have hs2 : (s.on 2).k = s.k + 2 ∧ (s.on 2).op = s.op := ⟨rfl, rfl⟩;unfold zba;split
 · rename_i h
   unfold funM;exact Bd.on ((zev hF (by decide) (s := s.on 1) (hF.ok.step hk (za0 h))).bind (fun t s1 a1 b1 c1 => (zbk hF b1).bind (fun _ s2 a2 b2 c2 => (hE s2 b2 (by omega)).bind (fun i s3 a3 b3 c3 => zd1 b3))))
 split
 · rename_i h
   have hk1 := hF.ok.step hk (za0 h);unfold letM;dsimp only;split
   · rename_i h2
     exact Bd.on ((zev hF (by decide) (s := s.on 2) (hF.ok.step hk1 (za0 h2))).bind (fun t s1 a1 b1 c1 => (zbk hF b1).bind (fun _ s2 a2 b2 c2 => (hE s2 b2 (by omega)).bind (fun i s3 a3 b3 c3 => (zbk hF b3).bind (fun _ s4 a4 b4 c4 => (hE s4 b4 (by omega)).bind (fun j s5 a5 b5 c5 => zd1 b5))))))
   · exact Bd.on ((zev hF (by decide) (s := s.on 1) hk1).bind (fun t s1 a1 b1 c1 => (zbk hF b1).bind (fun _ s2 a2 b2 c2 => (hE s2 b2 (by omega)).bind (fun i s3 a3 b3 c3 => (zbk hF b3).bind (fun _ s4 a4 b4 c4 => (hE s4 b4 (by omega)).bind (fun j s5 a5 b5 c5 => zd1 b5))))))
 split
 · rename_i h
   unfold zby
   exact Bd.on ((hE (s.on 1) (hF.ok.step hk (za0 h)) (on_le ho)).bind (fun i s1 a1 b1 c1 => (zbk hF b1).bind (fun _ s2 a2 b2 c2 => (hE s2 b2 (by omega)).bind (fun j s3 a3 b3 c3 => (zbk hF b3).bind (fun _ s4 a4 b4 c4 => (hE s4 b4 (by omega)).bind (fun l s5 a5 b5 c5 => zd1 b5))))))
 split
 · rename_i h
   unfold zci;exact Bd.on ((hE (s.on 1) (hF.ok.step hk (za0 h)) (on_le ho)).bind (fun i s1 a1 b1 c1 => (zbk hF b1).bind (fun _ s2 a2 b2 c2 => (zza hF hE _ _ _ _ s2 b2 (by omega)).bind (fun x s3 a3 b3 c3 => (zbk hF b3).bind (fun _ s4 a4 b4 c4 => zd1 b4)))))
 exact zw3 hF hE hY s hk ho
theorem zFq (hF : Far ts) : ∀ f, B0 ts (termM ts f) := by
 intro f
 induction f with
 | zero => intro s _ _; trivial
 | succ f ih =>
  intro s hk ho;unfold termM;refine zu1 hF hk ho ?_;have h1 := zEt hF ih (zuw hF f) s.up hk (by show s.op + 1 ≤ s.k + 1; omega)
  cases hM : zba ts (termM ts f) (typeM ts f) s.up with
  | bad e p => rw [hM] at h1; exact h1
  | un => trivial
  | ok i s1 =>
   rw [hM] at h1;obtain ⟨a1, b1, c1⟩ := h1;have a1' : s.k + 0 ≤ s1.k := a1;have c1' : s1.op = s.op + 1 := c1;exact ⟨by show s.k + 0 ≤ s1.k; omega, b1, by show s1.op - 1 = s.op; omega⟩
theorem zEv (hF : Far ts) (hY : B0 ts T) : ∀ (f : Nat) (s : St), s.k < ts.length → s.op ≤ s.k → Bd ts.length 0 s (zb7 ts T f s) := by
 intro f
 induction f with
 | zero => intro s _ _; trivial
 | succ f ih =>
  intro s hk ho;unfold zb7;split
  · rename_i h
    have hs : (s.on 1).k = s.k + 1 ∧ (s.on 1).op = s.op := ⟨rfl, rfl⟩;refine Bd.on ((zev hF (by decide) (s := s.on 1) (hF.ok.step hk (za0 h))).bind (fun t s1 a1 b1 c1 => (zbk hF b1).bind (fun _ s2 a2 b2 c2 => (hY s2 b2 (by omega)).bind (fun i s3 a3 b3 c3 => ?_))));have hb := (zbk hF (x := [59]) (s := s3.addA ⟨bs t.2.1, (i : Int), (t.2.2 : Nat)⟩) b3).bind (f := fun _ s4 => zb7 ts T f s4) (fun _ s4 a4 b4 c4 => ih s4 b4 (by have a4' : s3.k + 1 ≤ s4.k := a4; have c4' : s4.op = s3.op := c4; omega));exact hb
  · exact Bd.ok_ hk
theorem zHu (hF : Far ts) (f : Nat) (hk : s.k < ts.length) (ho : s.op = 0) : Bd ts.length 0 s (textM ts f s) := by
 unfold textM;exact (zEv hF (zuw hF f) _ s hk (by omega)).bind (fun _ s1 a b c => (zFq hF f s1 b (by omega)).bind (fun _ s2 a2 b2 c2 => Bd.ok_ b2))
end
theorem zIk {l : List UInt8} {ts : List Tk} (h : lexA l = .ok ts) (hl : l.length ≤ 16000) : Far ts := by
 refine ⟨zc8 h hl, fun k hk => ?_⟩
 induction k with
 | zero => exact zK8 _
 | succ k ih =>
  have h1 := ih (by omega);have h2 := zJ1 h (i := k) (j := k + 1) (Nat.lt_succ_self k) hk;omega
theorem zJk {l : List UInt8} {q : Nat} (hl : l.length ≤ 16000) (h : textR l = .error (5, q)) : 256 ≤ q := by
 unfold textR readM at h
 cases hA : lexA l with
 | error e =>
  rw [hA] at h;obtain ⟨c', q'⟩ := e;injection h with h
  injection h with h1 h2
  unfold lexA at hA;split at hA
  · injection hA with hA; injection hA with hA _; omega
  split at hA
  · injection hA with hA; injection hA with hA _; omega
  split at hA
  · cases hA
  · injection hA with hA; injection hA with hA _; omega
 | ok ts =>
  rw [hA] at h;dsimp only at h;have hF := zIk hA hl;have hb := zHu hF 257 (s := St.zero) hF.ok.pos rfl
  cases hM : textM ts 257 St.zero with
  | un => rw [hM] at h; injection h with h; injection h with h1 h2; omega
  | bad e p =>
   rw [hM] at h hb;injection h with h
   injection h with h1 h2
   subst h1; subst h2;exact hb rfl
  | ok u s' =>
   rw [hM] at h;dsimp only at h;split at h
   · cases h
   · injection h with h
     injection h with h1 h2
     omega
def smT (x y : TermD) : Bool := decide (x.kind = y.kind ∧ x.name = y.name ∧ x.int = y.int ∧ x.bits = y.bits ∧ x.names = y.names ∧ x.kids.length = y.kids.length)
def smY (x y : TypD) : Bool := decide (x.kind = y.kind ∧ x.name = y.name ∧ x.opn = y.opn ∧ x.names = y.names)
def smA (x y : AliD) : Bool := decide (x.name = y.name)
def atT (a b : TreeD) (i j : Nat) : Bool := match a.nodes[i]?, b.nodes[j]? with | some x, some y => smT x y | _, _ => false
def atY (a b : TreeD) (i j : Nat) : Bool := match a.types[i]?, b.types[j]? with | some x, some y => smY x y | _, _ => false
def zam (t : TreeD) : List Nat := walk (tmK t) (t.nodes.length - 1)
def zd5 (t : TreeD) (i : Nat) : List Int := match t.nodes[i]? with | some x => x.types | none => []
def zdi (t : TreeD) (l : List Nat) : List Int := l.flatMap (zd5 t) ++ t.aliases.map (·.type)
def zcr (t : TreeD) (l : List Nat) : List Nat := (nats (zdi t l)).flatMap (walk (tyK t))
def sameB (a b : TreeD) : Bool :=
 zbq a && (zbq b && (all2 (atT a b) (zam a) (zam b) && (all2 smA a.aliases b.aliases && all2 (atY a b) (zcr a (zam a)) (zcr b (zam b)))))
theorem zrg (x : TermD) : smT x x = true := by simp [smT]
theorem zqx (x : TypD) : smY x x = true := by simp [smY]
theorem zrt (x : AliD) : smA x x = true := by simp [smA]
theorem zn3 {kids : Nat → List Nat} {n i : Nat} (hd : Dn kids n) (hi : i < n) : ∀ j ∈ walk kids i, j < n := fun j hj => by
 have := zek hd (i + 1) i (by omega) hi j hj;omega
theorem zp2 {t : TreeD} (h : Rng t) : ∀ i ∈ zam t, i < t.nodes.length := zn3 h.dnN (by have := h.one; omega)
theorem zmm {t : TreeD} (h : Rng t) (i : Nat) : ∀ k ∈ zd5 t i, 0 ≤ k ∧ k < (t.types.length : Int) := fun k hk => by
 unfold zd5 at hk;split at hk
 · rename_i x hx
   exact (h.nod i x hx).2.1 k hk
 · cases hk
theorem zho {t : TreeD} (h : Rng t) (l : List Nat) : ∀ k ∈ zdi t l, 0 ≤ k ∧ k < (t.types.length : Int) := fun k hk => by
 unfold zdi at hk;rcases List.mem_append.1 hk with hk | hk
 · obtain ⟨i, _, hk⟩ := List.mem_flatMap.1 hk
   exact zmm h i k hk
 · obtain ⟨x, hx, rfl⟩ := List.mem_map.1 hk
   exact ⟨(h.ali x hx).1, (h.ali x hx).2.1⟩
end Go.Proofs.YtidmeodmkcomlaaGreatDoor
