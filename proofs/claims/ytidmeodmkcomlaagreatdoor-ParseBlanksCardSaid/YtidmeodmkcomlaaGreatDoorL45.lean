/- The text of a token is as its kind -/
import Derived.Test.YtidmeodmkcomlaaGreatDoorL44
namespace Go.Proofs.YtidmeodmkcomlaaGreatDoor
open Go Go.Proofs Go.RowKit
set_option maxHeartbeats 4000000
def Val (l : List UInt8) : Prop := bd l 0 = l.length
theorem Val.nil : Val [] := zcw [] 0 rfl
theorem zcq {c : UInt8} {r : List UInt8} (h : c.toNat < 128) : Val (c :: r) ↔ Val r := by
 unfold Val;rw [zgy c r h, zK2];omega
theorem zl3 {l : List UInt8} (h : Val l) (h0 : 0 < l.length) : ¬ isBad l ∧ Val (l.drop (D l).2) := by
 unfold Val at *;by_cases hb : isBad l
 · rw [zfe _ _ hb] at h; omega
 refine ⟨hb, ?_⟩;have hD := zbl l h0;rw [zd3 _ _ h0 hb, bd_on _ (l.drop (D l).2) 0 (D l).2 (zJw _)] at h;rw [zKa];omega
theorem zIv {l : List UInt8} (hb : ¬ isBad l) (h0 : 0 < l.length) (h : Val (l.drop (D l).2)) : Val l := by
 unfold Val at *;have hD := zbl l h0;rw [zd3 _ _ h0 hb, bd_on _ (l.drop (D l).2) 0 (D l).2 (zJw _), h, zKa];omega
theorem zis {l : List UInt8} (hb : ¬ isBad l) : ((D l).2 = 1 ∧ (l.getD 0 0).toNat < 128 ∧ (D l).1 = (l.getD 0 0).toNat) ∨ (128 ≤ (D l).1 ∧ ∀ i, i < (D l).2 → 128 ≤ (l.getD i 0).toNat) := by
 unfold isBad at hb;unfold D Go.Lib.decodeN at *;revert hb
 repeat' split
 all_goals (dsimp only; intro hb)
 all_goals first
  | (exfalso; omega)
  | (left; omega)
  | (right; refine ⟨by omega, fun i hi => ?_⟩; rcases i with _ | _ | _ | _ | i <;> (try simp only [tai, Nat.reduceAdd]) <;> omega)
set_option maxRecDepth 100000 in
theorem zI1 {l : List UInt8} (hb : ¬ isBad l) (h0 : 0 < l.length) : D (l.take (D l).2) = D l := by
 have hD := zbl l h0
 have hg : ∀ w i, i < w → (l.take w).getD i 0 = l.getD i 0 := fun w i hi => by
  simp only [zK3, List.getElem?_take, if_pos hi]
 have hl : ∀ w, w ≤ l.length → (l.take w).length = w := fun w hw => by rw [zKi]; omega
 generalize hw : (D l).2 = w at hD ⊢;have e := hl w hD.2.2.1;unfold isBad at hb;unfold D Go.Lib.decodeN at hb hw ⊢;rw [e];revert hb hw
 have g0 := hg w 0 (by omega);rw [g0];have g1 := fun h => hg w 1 h;have g2 := fun h => hg w 2 h;have g3 := fun h => hg w 3 h;generalize (l.take w).getD 1 0 = a1 at *;generalize (l.take w).getD 2 0 = a2 at *;generalize (l.take w).getD 3 0 = a3 at *;intro hb hw;have hcase : w = 1 ∨ w = 2 ∨ w = 3 ∨ w = 4 := by omega
 rcases hcase with rfl | rfl | rfl | rfl
 · revert hb hw
   repeat' split
   all_goals (dsimp only; intro hb hw)
   all_goals first | with_reducible rfl | (exfalso; omega)
 · rw [g1 (by omega)]
   revert hb hw
   repeat' split
   all_goals (dsimp only; intro hb hw)
   all_goals first | with_reducible rfl | (exfalso; omega)
 · rw [g1 (by omega), g2 (by omega)]
   revert hb hw
   repeat' split
   all_goals (dsimp only; intro hb hw)
   all_goals first | with_reducible rfl | (exfalso; omega)
 · rw [g1 (by omega), g2 (by omega), g3 (by omega)]
   revert hb hw
   repeat' split
   all_goals (dsimp only; intro hb hw)
   all_goals first | with_reducible rfl | (exfalso; omega)
def Gr {α : Type} (d : Int) (s : St) : R3 α → Prop
 | .ok _ s' => (s'.t1.length : Int) + s'.t2.length + 2 * s.k + d ≤ s.t1.length + s.t2.length + 2 * s'.k
 | _ => True
section
variable {α β : Type} {ts : List Tk}
theorem Gr.bind {d1 d2 : Int} {s : St} {P : R3 α} {f : α → St → R3 β} (h : Gr d1 s P) (k : ∀ i s1, Gr d2 s1 (f i s1)) : Gr (d1 + d2) s (P.bind f) := by
 cases P with
 | ok i s1 =>
  have := k i s1;show Gr _ s (f i s1)
  cases hf : f i s1 with
  | ok j s2 =>
   rw [hf] at this;simp only [Gr] at *;omega
  | bad e p => trivial
  | un => trivial
 | bad e p => trivial
 | un => trivial
theorem Gr.weak {d d' : Int} {s : St} {P : R3 α} (h : Gr d s P) (hd : d' ≤ d) : Gr d' s P := by
 cases P with
 | ok i s1 => simp only [Gr] at *; omega
 | bad e p => trivial
 | un => trivial
theorem Gr.on {d : Int} {n : Nat} {s : St} {P : R3 α} (h : Gr d (s.on n) P) : Gr (d + 2 * n) s P := by
 cases P with
 | ok i s1 =>
  simp only [Gr, St.on] at *;push_cast at h
  omega
 | bad e p => trivial
 | un => trivial
theorem Gr.moved {d : Int} {s s1 : St} {P : R3 α} (h : Gr d s1 P) (hk : s1.k = s.k) (h1 : s1.t1 = s.t1) (h2 : s1.t2 = s.t2) : Gr d s P := by
 cases P with
 | ok i s2 => simp only [Gr, hk, h1, h2] at *; exact h
 | bad e p => trivial
 | un => trivial
theorem Gr.ok_ {s : St} {i : α} : Gr 0 s (.ok i s) := by simp [Gr]
theorem gr_on {s : St} {i : α} : Gr 2 s (.ok i (s.on 1)) := by simp only [Gr, St.on]; omega
theorem gr_token {kind : Nat} {s : St} : Gr 2 s (zag ts kind s) := by
 unfold zag;split
 · exact gr_on
 · trivial
theorem gr_must {x : List UInt8} {s : St} : Gr 2 s (mustM ts x s) := by
 unfold mustM;split
 · exact gr_on
 · trivial
theorem gr_own {o kind : Nat} {s : St} : Gr 2 s (ownM ts o kind s) := by
 refine Gr.bind (d1 := 2) (d2 := 0) gr_token (fun t s1 => ?_);split
 · trivial
 · simp [Gr, St.met]
theorem gr_newT {x : TermD} {s : St} : Gr (-1) s (newT s x) := by
 unfold newT;split
 · simp only [Gr, St.addT, zK5, zK2, zKc]; omega
 · trivial
theorem gr_newY {x : TypD} {s : St} : Gr (-1) s (newY s x) := by
 unfold newY;split
 · simp only [Gr, St.addY, zK5, zK2, zKc]; omega
 · trivial
def GrT (P : St → R3 Nat) : Prop := ∀ s, Gr 1 s (P s)
variable {P E T : St → R3 Nat}
theorem zx6 (hP : GrT P) (o : Nat) (sign : List UInt8) : ∀ (f : Nat) (ns : List (List UInt8)) (ks : List Int) (s : St), Gr 2 s (zbc ts P o sign f ns ks s) := by
 intro f
 induction f with
 | zero => intro ns ks s; trivial
 | succ f ih =>
  intro ns ks s;unfold zbc;refine Gr.weak (d := 2 + (2 + (1 + 0))) (gr_own.bind (fun x s1 => gr_must.bind (fun _ s2 => (hP s2).bind (fun i s3 => ?_)))) (by omega);split
  · exact gr_on.weak (by omega)
  · exact (gr_must.bind (fun _ s4 => ih _ _ s4)).weak (by omega)
theorem zo2 (hP : GrT P) (o : Nat) (sign : List UInt8) (s : St) : Gr 2 s (zan ts P o sign s) := by
 unfold zan;split
 · exact gr_on
 · exact zx6 hP o sign _ _ _ s
theorem zlq (hT : GrT T) : GrT (zay ts T) := by
 intro s;unfold zay;split
 · exact Gr.weak (Gr.on ((hT (s.on 1)).bind (fun i s1 => gr_must.bind (fun _ s2 => Gr.ok_)))) (by omega)
 split
 · exact Gr.weak (Gr.on ((zo2 hT _ _ (s.on 1)).bind (fun x s1 => gr_newY))) (by omega)
 split
 · exact Gr.weak (Gr.on gr_newY) (by omega)
 · trivial
theorem zG5 (x : Vr) (s : St) : Gr 2 s (itemM ts x s) := by
 unfold itemM;split
 · exact gr_on
 refine Gr.weak (d := 0 + 2) (Gr.bind ?_ (fun _ s1 => ?_)) (by omega)
 · split
   · exact Gr.ok_
   · exact gr_must.weak (by omega)
 split
 · exact Gr.weak (Gr.on (gr_must.bind (fun _ s2 => Gr.ok_))) (by omega)
 · exact (gr_own.bind (fun n s2 => Gr.ok_)).weak (by omega)
theorem zt1 (hT : GrT T) : ∀ (f : Nat) (x : Vr) (r : List Vr) (s : St), Gr 1 s (zaq ts T f x r s) := by
 intro f
 induction f with
 | zero => intro x r s; trivial
 | succ f ih =>
  intro x r s;unfold zaq;refine Gr.weak (d := 2 + (-1)) ((zG5 x s).bind (fun y s1 => ?_)) (by omega);split
  · refine Gr.weak (d := (-1) + 0) (gr_newY.bind (fun i s2 => ?_)) (by omega)
    split
    · exact Gr.ok_
    · exact (ih _ _ s2).weak (by omega)
  · split
    · exact Gr.weak (Gr.on (ih _ _ (s1.on 1))) (by omega)
    · exact Gr.weak ((zlq hT s1).bind (fun i s2 => ih _ _ s2)) (by omega)
theorem zz8 (hT : GrT T) : GrT (zak ts T) := by
 intro s;unfold zak;split
 · unfold zbp
   exact Gr.weak (Gr.on (zt1 hT _ _ _ (s.on 1))) (by omega)
 · exact zlq hT s
theorem zuo : ∀ f, GrT (typeM ts f) := by
 intro f
 induction f with
 | zero => intro s; trivial
 | succ f ih =>
  intro s;unfold typeM;split
  · trivial
  refine Gr.moved (s1 := s.up) (Gr.weak (d := 1 + 0) ((zz8 ih s.up).bind (fun i s1 => ?_)) (by omega)) rfl rfl rfl;split
  · refine Gr.weak (Gr.on ((ih (s1.on 1)).bind (d2 := -1 + 0) (fun j s2 => gr_newY.bind (fun l s3 => ?_)))) (by omega)
    simp [Gr, St.down]
  · simp [Gr, St.down]
theorem zvm (hE : GrT E) (hY : GrT T) (s : St) : Gr 1 s (zas ts E T s) := by
 unfold zas;refine Gr.weak (Gr.on ((hE (s.on 1)).bind (d2 := 0) (fun i s1 => ?_))) (by omega);split
 · exact gr_on.weak (by omega)
 refine Gr.weak (gr_must.bind (fun _ s2 => (hY s2).bind (d2 := 1) (fun j s3 => ?_))) (by omega);split
 · exact Gr.weak (Gr.on ((hY (s3.on 1)).bind (fun l s4 => gr_must.bind (fun _ s5 => gr_newT)))) (by omega)
 · exact Gr.weak (gr_must.bind (fun _ s5 => gr_newT)) (by omega)
theorem zFz (hE : GrT E) (hY : GrT T) : GrT (atomM ts E T) := by
 intro s;unfold atomM;split
 · exact zvm hE hY s
 split
 · unfold zbu
   exact Gr.weak (Gr.on ((zo2 hE _ _ (s.on 1)).bind (fun x s1 => gr_newT))) (by omega)
 split
 · exact Gr.weak (Gr.on gr_newT) (by omega)
 · trivial
theorem zBo : ∀ (f left : Nat) (s : St), Gr 0 s (postL ts f left s) := by
 intro f
 induction f with
 | zero => intro left s; trivial
 | succ f ih =>
  intro left s;unfold postL;split
  · exact Gr.weak (Gr.on (gr_token.bind (fun t s1 => gr_newT.bind (fun i s2 => ih i s2)))) (by omega)
  · exact Gr.ok_
theorem zu9 (hE : GrT E) (hY : GrT T) : GrT (postM ts E T) := fun s => ((zFz hE hY s).bind (fun i s1 => zBo _ i s1)).weak (by omega)
theorem ztl (hE : GrT E) (hY : GrT T) : GrT (unitM ts E T) := by
 intro s;unfold unitM;split
 · exact Gr.weak (Gr.on ((zu9 hE hY (s.on 1)).bind (fun i s1 => gr_newT))) (by omega)
 · exact zu9 hE hY s
theorem zxr (hE : GrT E) (hY : GrT T) : ∀ (f left : Nat) (s : St), Gr 0 s (zat ts E T f left s) := by
 intro f
 induction f with
 | zero => intro left s; trivial
 | succ f ih =>
  intro left s;unfold zat;split
  · exact Gr.weak ((ztl hE hY s).bind (fun i s1 => gr_newT.bind (fun j s2 => ih j s2))) (by omega)
  · exact Gr.ok_
theorem zCx (hE : GrT E) (hY : GrT T) : GrT (zb0 ts E T) := fun s => ((ztl hE hY s).bind (fun i s1 => zxr hE hY _ i s1)).weak (by omega)
theorem gr_op (hP : GrT P) (left : Nat) (s : St) : Gr 0 s (opM ts P left s) := Gr.weak (Gr.on ((hP (s.on 1)).bind (fun i s1 => gr_newT))) (by omega)
theorem zF6 (hP : GrT P) (sg : List (List UInt8)) : ∀ (f left : Nat) (s : St), Gr 0 s (rowL ts P sg f left s) := by
 intro f
 induction f with
 | zero => intro left s; trivial
 | succ f ih =>
  intro left s;unfold rowL;split
  · exact Gr.weak ((gr_op hP left s).bind (fun i s1 => ih i s1)) (by omega)
  · exact Gr.ok_
theorem zrq (hP : GrT P) (sg : List (List UInt8)) : GrT (rowM ts P sg) := fun s => ((hP s).bind (fun i s1 => zF6 hP sg _ i s1)).weak (by omega)
theorem zuh (hE : GrT E) (hY : GrT T) : GrT (joinM ts E T) := zrq (zrq (zrq (zCx hE hY) _) _) _
theorem zwd (hE : GrT E) (hY : GrT T) : GrT (zad ts E T) := by
 intro s;refine Gr.weak (d := 1 + 0) ((zuh hE hY s).bind (fun i s1 => ?_)) (by omega);split
 · exact gr_op (zuh hE hY) i s1
 · exact Gr.ok_
theorem zy2 (hE : GrT E) (o : Nat) : ∀ (f : Nat) (ns : List (List UInt8)) (ks : List Int) (s : St), Gr 0 s (zbz ts E o f ns ks s) := by
 intro f
 induction f with
 | zero => intro ns ks s; trivial
 | succ f ih =>
  intro ns ks s;unfold zbz;split
  · split
    · exact Gr.weak (Gr.on (gr_must.bind (fun _ s1 => (hE s1).bind (fun i s2 => Gr.ok_)))) (by omega)
    · exact Gr.weak (Gr.on (gr_own.bind (fun x s1 => gr_token.bind (fun t s2 => gr_must.bind (fun _ s3 => (hE s3).bind (fun i s4 => ih _ _ s4)))))) (by omega)
  · exact Gr.ok_
theorem zEz (hE : GrT E) (hY : GrT T) : GrT (zba ts E T) := by
 intro s;unfold zba;split
 · unfold funM
   exact Gr.weak (Gr.on (gr_token.bind (fun t s1 => gr_must.bind (fun _ s2 => (hE s2).bind (fun i s3 => gr_newT))))) (by omega)
 split
 · unfold letM
   dsimp only;split
   · exact Gr.weak (Gr.on (gr_token.bind (fun t s1 => gr_must.bind (fun _ s2 => (hE s2).bind (fun i s3 => gr_must.bind (fun _ s4 => (hE s4).bind (fun j s5 => gr_newT))))))) (by omega)
   · exact Gr.weak (Gr.on (gr_token.bind (fun t s1 => gr_must.bind (fun _ s2 => (hE s2).bind (fun i s3 => gr_must.bind (fun _ s4 => (hE s4).bind (fun j s5 => gr_newT))))))) (by omega)
 split
 · unfold zby
   exact Gr.weak (Gr.on ((hE (s.on 1)).bind (fun i s1 => gr_must.bind (fun _ s2 => (hE s2).bind (fun j s3 => gr_must.bind (fun _ s4 => (hE s4).bind (fun l s5 => gr_newT))))))) (by omega)
 split
 · unfold zci
   exact Gr.weak (Gr.on ((hE (s.on 1)).bind (fun i s1 => gr_must.bind (fun _ s2 => (zy2 hE _ _ _ _ s2).bind (fun x s3 => gr_must.bind (fun _ s4 => gr_newT)))))) (by omega)
 exact zwd hE hY s
theorem zHn : ∀ f, GrT (termM ts f) := by
 intro f
 induction f with
 | zero => intro s; trivial
 | succ f ih =>
  intro s;unfold termM;split
  · trivial
  refine Gr.moved (s1 := s.up) (Gr.weak (d := 1 + 0) ((zEz ih (zuo f) s.up).bind (fun i s1 => ?_)) (by omega)) rfl rfl rfl;simp [Gr, St.down]
theorem zD5 (hY : GrT T) : ∀ (f : Nat) (s : St), Gr 0 s (zb7 ts T f s) := by
 intro f
 induction f with
 | zero => intro s; trivial
 | succ f ih =>
  intro s;unfold zb7;split
  · exact Gr.weak (Gr.on (gr_token.bind (fun t s1 => gr_must.bind (fun _ s2 => (hY s2).bind (fun i s3 => Gr.moved (s1 := s3.addA ⟨bs t.2.1, (i : Int), (t.2.2 : Nat)⟩) (gr_must.bind (fun _ s4 => ih s4)) rfl rfl rfl))))) (by omega)
  · exact Gr.ok_
theorem zFk (f : Nat) (s : St) : Gr 1 s (textM ts f s) := ((zD5 (zuo f) _ s).bind (fun _ s1 => (zHn f s1).bind (fun _ s2 => Gr.ok_))).weak (by omega)
end
theorem zGo {l t : List UInt8} (hb : ¬ isBad l) (h0 : 0 < l.length) (ht : Val t) : Val (l.take (D l).2 ++ t) := by
 have hD := zbl l h0;have e := zI1 hb h0;have hb2 : ¬ isBad (l.take (D l).2) := by unfold isBad; rw [e]; exact hb
 have hl : (l.take (D l).2).length = (D l).2 := by rw [zKi]; omega
 have e2 := zkw (l.take (D l).2) t (by omega) hb2;refine zIv (l := l.take (D l).2 ++ t) (by unfold isBad; rw [e2, e]; exact hb) (by rw [zK5]; omega) ?_;rw [e2, e, List.drop_append_of_le_length (by omega), List.drop_eq_nil_of_le (by omega)];exact ht
theorem zp0 : ∀ (a r : List UInt8), (∀ c ∈ a, 128 ≤ c.toNat) → strV (a ++ r) = (strV r).map fun x => (a ++ x.1, x.2 + a.length)
 | [], r, _ => by cases h : strV r <;> simp [h]
 | c :: a, r, h => by
  have hc := h c (by simp);rw [zKj, zbd, if_neg (by omega), if_neg (by omega), if_neg (by omega), zp0 a r (fun x hx => h x (by simp [hx]))];cases strV r <;> simp
  omega
theorem zxc : ∀ (n : Nat) (l x : List UInt8) (m : Nat), l.length ≤ n → Val l → strV l = some (x, m) → Val x ∧ Val (l.drop m) ∧ ∀ c ∈ x, 32 ≤ c.toNat ∨ c.toNat = 10 := by
 intro n
 induction n with
 | zero =>
  intro l x m h _ hs;obtain rfl : l = [] := List.length_eq_zero_iff.1 (by omega);rw [zck] at hs; cases hs
 | succ n ih =>
  intro l x m h hv hs
  cases l with
  | nil => rw [zck] at hs; cases hs
  | cons c r =>
   by_cases hc : c.toNat < 128
   · have hvr := (zcq hc).1 hv
     rw [zbd] at hs;split at hs
     · simp only [zKt, zKu] at hs
       obtain ⟨rfl, rfl⟩ := hs;exact ⟨Val.nil, hvr, fun c hc => (by cases hc)⟩
     split at hs
     · cases hs
     split at hs
     · cases r with
       | nil => cases hs
       | cons d r' =>
        dsimp only at hs
        cases he : escB d with
        | none => rw [he] at hs; cases hs
        | some e =>
         rw [he] at hs;simp only [zKg, zKu] at hs;obtain ⟨⟨y, k⟩, hy, rfl, rfl⟩ := hs
         have hd : d.toNat < 128 ∧ e.toNat < 128 ∧ (32 ≤ e.toNat ∨ e.toNat = 10) := by
          unfold escB at he;split at he
          · injection he with he; subst he; exact ⟨by omega, by decide, by decide⟩
          split at he
          · injection he with he; subst he; exact ⟨by omega, by decide, by decide⟩
          split at he
          · injection he with he; subst he; exact ⟨by omega, by decide, by decide⟩
          · cases he
         obtain ⟨h1, h2, h3⟩ := ih r' y k (by simp only [zK2] at h; omega) ((zcq hd.1).1 hvr) hy;refine ⟨(zcq hd.2.1).2 h1, h2, fun z hz => ?_⟩;rcases List.mem_cons.1 hz with rfl | hz
         · exact hd.2.2
         · exact h3 z hz
     · rename_i h1 h2 h3
       simp only [zKg, zKu] at hs;obtain ⟨⟨y, k⟩, hy, rfl, rfl⟩ := hs;obtain ⟨g1, g2, g3⟩ := ih r y k (by simp only [zK2] at h; omega) hvr hy;refine ⟨(zcq hc).2 g1, g2, fun z hz => ?_⟩;rcases List.mem_cons.1 hz with rfl | hz
       · exact .inl (by omega)
       · exact g3 z hz
   · have h0 : 0 < (c :: r).length := by simp
     obtain ⟨hb, hv2⟩ := zl3 hv h0;have hD := zbl (c :: r) h0;rcases zis hb with ⟨_, h2, _⟩ | ⟨_, h2⟩
     · exact absurd h2 hc
     obtain ⟨w, hw⟩ : ∃ w, (D (c :: r)).2 = w := ⟨_, rfl⟩;have hap := fun t (ht : Val t) => zGo (t := t) hb h0 ht;rw [hw] at hv2 h2 hD hap
     have hall : ∀ z ∈ (c :: r).take w, 128 ≤ z.toNat := fun z hz => by
      obtain ⟨i, hi, rfl⟩ := zKo hz;have hi' : i < w := by rw [zKi] at hi; omega
      have := h2 i hi';rw [zK3, zK1 (by rw [zKi] at hi; omega)] at this;simpa using this
     rw [← List.take_append_drop w (c :: r), zp0 _ _ hall] at hs;simp only [zKg, zKu] at hs;obtain ⟨⟨y, k⟩, hy, rfl, rfl⟩ := hs;obtain ⟨g1, g2, g3⟩ := ih _ y k (by rw [zKa]; simp only [zK2] at h ⊢; omega) hv2 hy;refine ⟨hap _ g1, ?_, fun z hz => ?_⟩
     · rw [taq] at g2
       rw [zKi, Nat.min_eq_left hD.2.2.1, Nat.add_comm];exact g2
     · rcases List.mem_append.1 hz with hz | hz
       · exact .inl (by have := hall z hz; omega)
       · exact g3 z hz
theorem zy4 {s : ByteArray} (_hv : Val (tl s)) (h : ∀ c ∈ tl s, 32 ≤ c.toNat ∨ c.toNat = 10) : ∀ (f pos : Nat), Val ((tl s).drop pos) → Lib.idxFuncFrom lowR true s f pos = -1 := by
 intro f
 induction f with
 | zero => intro pos _; rfl
 | succ f ih =>
  intro pos hp;unfold Lib.idxFuncFrom;split
  · rename_i hlt
    have hd : Utf8.decode s pos = D ((tl s).drop pos) := by
     rw [Lib.decode_at];unfold D;have hg : ∀ i, s.get! i = (tl s).getD i 0 := fun i => zma (tl s) i;rw [hg, hg, hg, hg];simp only [zKa, zab, zK3, List.getElem?_drop, Nat.add_zero]
    have h0 : 0 < ((tl s).drop pos).length := by rw [zKa, zab]; omega
    obtain ⟨hb, hv2⟩ := zl3 hp h0;rw [hd]
    have hlow : lowR (D ((tl s).drop pos)).1 = false := by
     rcases zis hb with ⟨_, h2, h3⟩ | ⟨h2, _⟩
     · have hm : ((tl s).drop pos).getD 0 0 ∈ tl s := by
        rw [zK3, zK1 h0];exact List.mem_of_mem_drop (zKe h0)
       have := h _ hm;rw [h3];generalize ((tl s).drop pos).getD 0 0 = c at this;unfold lowR;rcases this with this | this
       · simp; omega
       · simp [this]
     · unfold lowR; simp; omega
    rw [hlow, if_neg (by decide)];exact ih _ (by rw [taq] at hv2; exact hv2)
  · rfl
theorem zA4 {l : List UInt8} (hv : Val l) (h : ∀ c ∈ l, 32 ≤ c.toNat ∨ c.toNat = 10) : lineB (bs l) = true := by
 unfold lineB badOf;rw [tl_bs, if_pos (show bd l 0 = l.length from hv)];have e : Lib.idxFunc lowR true (bs l) = -1 := zy4 (s := bs l) (by rw [tl_bs]; exact hv) (by rw [tl_bs]; exact h) _ 0 (by rw [tl_bs]; exact hv);rw [e]; decide
theorem zBy : ∀ (n : Nat) (a : List UInt8) (c : UInt8) (r : List UInt8), a.length ≤ n → c.toNat < 128 → Val (a ++ c :: r) → Val (c :: r) := by
 intro n
 induction n with
 | zero =>
  intro a c r h _ hv;obtain rfl : a = [] := List.length_eq_zero_iff.1 (by omega);exact hv
 | succ n ih =>
  intro a c r h hc hv
  cases a with
  | nil => exact hv
  | cons b a =>
   have h0 : 0 < ((b :: a) ++ c :: r).length := by simp
   obtain ⟨hb, hv2⟩ := zl3 hv h0;have hD := zbl _ h0
   have hw : (D ((b :: a) ++ c :: r)).2 ≤ (b :: a).length := by
    rcases zis hb with ⟨h1, _⟩ | ⟨_, h2⟩
    · rw [h1]; simp
    · refine Decidable.byContradiction fun hn => ?_
      have := h2 (b :: a).length (by omega);rw [zK3, zKl (zJw _), Nat.sub_self] at this;simp only [gB, Option.getD_some] at this;omega
   rw [List.drop_append_of_le_length hw] at hv2;exact ih _ c r (by rw [zKa]; simp only [zK2] at h ⊢; omega) hc hv2
theorem zgf {l : List UInt8} (hv : Val l) : ∀ (n : Nat), (∀ c ∈ l.take n, c.toNat < 128) → Val (l.drop n) := by
 intro n
 induction n generalizing l with
 | zero => intro _; exact hv
 | succ n ih =>
  intro h
  cases l with
  | nil => exact hv
  | cons c r =>
   exact ih ((zcq (h c (by simp))).1 hv) (fun x hx => h x (by simp [hx]))
theorem zBq : ∀ (n : Nat) (l : List UInt8), l.length ≤ n → Val l → Val (l.drop (skipN l)) := by
 intro n
 induction n with
 | zero =>
  intro l h hv;obtain rfl : l = [] := List.length_eq_zero_iff.1 (by omega);rw [zax]; exact hv
 | succ n ih =>
  intro l h hv
  cases l with
  | nil => rw [zax]; exact hv
  | cons c r =>
   by_cases hb : zc3 c = true
   · rw [zen c r hb]
     have hc : c.toNat < 128 := by unfold zc3 at hb; simp at hb; omega
     exact ih r (by simp only [zK2] at h; omega) ((zcq hc).1 hv)
   · by_cases hn : noteB (c :: r) = true
     · rw [zfa _ hn, ← taq]
       have h2 := zey _ hn;have h3 := zij (c :: r);refine ih _ (by rw [zKa]; simp only [zK2] at h ⊢; omega) ?_
       cases hd : (c :: r).drop (noteN (c :: r)) with
       | nil => exact Val.nil
       | cons d r' =>
        have e : (c :: r).take (noteN (c :: r)) ++ d :: r' = c :: r := by rw [← hd, List.take_append_drop]
        have hd10 : d.toNat = 10 := by
         have hdw : (c :: r).dropWhile (fun c => decide (c.toNat ≠ 10)) = d :: r' := by
          have e1 := tba (p := fun c : UInt8 => decide (c.toNat ≠ 10)) (l := c :: r)
          have e2 : (c :: r).drop (noteN (c :: r)) = (c :: r).dropWhile (fun c => decide (c.toNat ≠ 10)) := by
           unfold noteN;conv => lhs; arg 2; rw [← e1]
           rw [List.drop_left]
          rw [← e2]; exact hd
         have := List.head?_dropWhile_not (fun c : UInt8 => decide (c.toNat ≠ 10)) (c :: r);rw [hdw] at this;simpa using this
        exact zBy _ ((c :: r).take (noteN (c :: r))) d r' (zJw _) (by omega) (by rw [e]; exact hv)
     · rw [zcx c r (by simpa using hb) (by simpa using hn)]
       exact hv
theorem zmu {α : Type} {p : α → Bool} : ∀ {l : List α} {y : α}, y ∈ l.takeWhile p → p y = true
 | [], y, h => by simp at h
 | a :: l, y, h => by
  by_cases ha : p a = true
  · rw [List.takeWhile_cons_of_pos ha] at h
    rcases List.mem_cons.1 h with rfl | h
    · exact ha
    · exact zmu h
  · rw [List.takeWhile_cons_of_neg ha] at h; cases h
theorem zzc (p q : UInt8 → Bool) (l : List UInt8) : spanN p q (l.take (spanN p q l)) = spanN p q l := by
 cases l with
 | nil => rfl
 | cons c r =>
  by_cases h : p c = true
  · have e : spanN p q (c :: r) = (r.takeWhile q).length + 1 := by simp [spanN, h]
    rw [e, ta5]
    have e2 : r.take (r.takeWhile q).length = r.takeWhile q := by
     conv => lhs; arg 2; rw [← tba (p := q) (l := r)]
     exact List.take_left
    rw [e2];simp only [spanN, h, if_true]
    have : (r.takeWhile q).takeWhile q = r.takeWhile q := ziz q _ (fun y hy => by
     have := zmu hy
     exact this)
    rw [this]
  · have e : spanN p q (c :: r) = 0 := by simp [spanN, h]
    rw [e]; rfl
theorem zp8 {l : List UInt8} (h : nameN l ≠ 0) (hw : isW (l.take (nameN l)) = false) : zac (l.take (nameN l)) = true := by
 have hle := zcl lowB zbj l;have e : nameN (l.take (nameN l)) = nameN l := zzc lowB zbj l;unfold zac;rw [hw, e];have : (l.take (nameN l)).length = nameN l := by rw [zKi]; exact Nat.min_eq_left hle
 rw [this];simp only [decide_true, Bool.not_false, Bool.and_true, zKq];intro hn;rw [hn] at this;simp at this
 omega
theorem zDu {l : List UInt8} (h : nameN l ≠ 0) : tagB (l.take (nameN l)) = true := by
 unfold tagB
 cases hw : isW (l.take (nameN l)) with
 | true => simp
 | false => rw [zp8 h hw]; rfl
theorem zCd {c : UInt8} {r : List UInt8} (h : highB c = true) : zbo ((c :: r).take (zc4 (c :: r))) = true := by
 have e : zc4 (c :: r) = (r.takeWhile aliB).length + 1 := by simp [zc4, spanN, h]
 rw [e, ta5]
 have e2 : r.take (r.takeWhile aliB).length = r.takeWhile aliB := by
  conv => lhs; arg 2; rw [← tba (p := aliB) (l := r)]
  exact List.take_left
 rw [e2];simp only [zbo, h, Bool.true_and, taw];exact fun x hx => zmu hx
theorem zgd {p q : UInt8 → Bool} (hp : ∀ c, p c = true → c.toNat < 128) (hq : ∀ c, q c = true → c.toNat < 128) (l : List UInt8) : ∀ x ∈ l.take (spanN p q l), x.toNat < 128 := by
 intro x hx
 cases l with
 | nil => simp at hx
 | cons c r =>
  by_cases h : p c = true
  · have e : spanN p q (c :: r) = (r.takeWhile q).length + 1 := by simp [spanN, h]
    rw [e, ta5] at hx
    have e2 : r.take (r.takeWhile q).length = r.takeWhile q := by
     conv => lhs; arg 2; rw [← tba (p := q) (l := r)]
     exact List.take_left
    rw [e2] at hx;rcases List.mem_cons.1 hx with rfl | hx
    · exact hp _ h
    · exact hq _ (zmu hx)
  · have e : spanN p q (c :: r) = 0 := by simp [spanN, h]
    rw [e] at hx; simp at hx
theorem zup (c : UInt8) (h : lowB c = true) : c.toNat < 128 := by unfold lowB at h; simp at h; omega
theorem zry (c : UInt8) (h : zbj c = true) : c.toNat < 128 := by unfold zbj lowB digB at h; simp at h; omega
theorem zDx (c : UInt8) (h : highB c = true) : c.toNat < 128 := by unfold highB at h; simp at h; omega
theorem zHb (c : UInt8) (h : aliB c = true) : c.toNat < 128 := by unfold aliB highB zb9 digB at h; simp at h; omega
theorem zui (c : UInt8) (h : digB c = true) : c.toNat < 128 := by unfold digB at h; simp at h; omega
theorem zHf (c : UInt8) (h : hexB c = true) : c.toNat < 128 := by unfold hexB digB at h; simp at h; omega
theorem zC9 {l : List UInt8} {t : Nat × List UInt8} {n : Nat} (hl : l.length ≤ 1000) (hv : Val l) (h : tok l = some (t, n)) (p : Nat) : TkGood (t.1, t.2, p) ∧ Val (l.drop n) := by
 have hlen := (zAj h p).2
 cases l with
 | nil => simp [tok] at h
 | cons c r =>
  rw [tok] at h;split at h
  · rename_i hld
    split at h
    · rename_i hf
      simp only [zKt, zKu] at h;obtain ⟨rfl, rfl⟩ := h;refine ⟨⟨zK4 hlen hl, by simp, by simp, by simp, by simp, by simp⟩, zgf hv 18 (fun x hx => ?_)⟩;unfold leadB at hld;unfold fltB at hf;simp only [zK6, zKq, taw] at hld hf;have e : (c :: r).take 18 = (c :: r).take 2 ++ ((c :: r).drop 2).take 16 := List.take_add (i := 2) (j := 16);rw [e, hld] at hx;rcases List.mem_append.1 hx with hx | hx
      · simp only [zKf, zKn, or_false] at hx
        rcases hx with rfl | rfl <;> decide
      · exact zHf x (hf.2 x hx)
    · cases h
  split at h
  · rename_i hc
    simp only [zKg, zKu] at h;obtain ⟨⟨x, m⟩, hx, rfl, rfl⟩ := h;have hvr := (zcq (c := c) (by omega)).1 hv;obtain ⟨h1, h2, h3⟩ := zxc _ r x m (zJw _) hvr hx;exact ⟨⟨zK4 hlen hl, by simp, by simp, by simp, fun _ => zA4 h1 h3, by simp⟩, h2⟩
  split at h
  · rename_i hc
    split at h
    · cases h
    · rename_i h0
      simp only [zKt, zKu] at h;obtain ⟨rfl, rfl⟩ := h;have hvr := (zcq (c := c) (by omega)).1 hv;exact ⟨⟨zK4 hlen hl, by simp, by simp, fun _ => zDu h0, by simp, by simp⟩, zgf hvr _ (zgd zup zry r)⟩
  split at h
  · split at h
    · cases h
    · rename_i h0
      simp only [zKt, zKu] at h;obtain ⟨rfl, rfl⟩ := h;have hi := ztu h0
      have hN : intN (c :: r) = digN (c :: r) ∧ decV 0 ((c :: r).take (digN (c :: r))) ≤ 9223372036854775807 := by
       unfold intN at h0 ⊢;split at h0
       · rename_i hc; rw [if_pos hc]; exact ⟨rfl, hc.2⟩
       · exact absurd rfl h0
      refine ⟨⟨zK4 hlen hl, by simp, by simp, by simp, by simp, fun _ => ⟨_, hi, by omega, ?_⟩⟩, ?_⟩
      · rw [hN.1]; have := hN.2; omega
      · rw [hN.1]; exact zgf hv _ (zgd zui zui (c :: r))
  split at h
  · rename_i hlow
    simp only [zKt, zKu] at h;obtain ⟨rfl, rfl⟩ := h;have hn0 : nameN (c :: r) ≠ 0 := by simp [nameN, spanN, hlow]
    refine ⟨⟨zK4 hlen hl, fun e => ?_, fun e => ?_, fun e => ?_, fun e => ?_, fun e => ?_⟩, zgf hv _ (zgd zup zry (c :: r))⟩
    · refine zp8 hn0 ?_
      dsimp only at e;split at e
      · omega
      · rename_i hw; simpa using hw
    all_goals (dsimp only at e; split at e <;> omega)
  split at h
  · rename_i hhi
    simp only [zKt, zKu] at h;obtain ⟨rfl, rfl⟩ := h;exact ⟨⟨zK4 hlen hl, by simp, fun _ => zCd hhi, by simp, by simp, by simp⟩, zgf hv _ (zgd zDx zHb (c :: r))⟩
  split at h
  · cases h
  · rename_i hs
    simp only [zKt, zKu] at h;obtain ⟨rfl, rfl⟩ := h;refine ⟨⟨zK4 hlen hl, by simp, by simp, by simp, by simp, by simp⟩, zgf hv _ (fun x hx => ?_)⟩;have hz : ∀ (y : UInt8) (L : List UInt8), y ∈ L → (∀ z ∈ L, z.toNat < 128) → y.toNat < 128 := fun y L hy hL => hL y hy;unfold signN at hx hs;split at hx
    · rename_i h2
      have : ∀ L ∈ twos, ∀ z ∈ L, z.toNat < 128 := by decide
      exact this _ h2 x hx
    · rename_i h2
      rw [if_neg h2] at hs;split at hx
      · rename_i h1
        rw [ta5, List.take_zero] at hx;simp only [zK7] at hx;subst hx;have : ∀ z ∈ ones, z.toNat < 128 := by decide
        exact this _ h1
      · simp at hx
theorem zAp : ∀ (n : Nat) (l : List UInt8) (k : Nat) (ts : List Tk), l.length ≤ n → l.length ≤ 1000 → Val l → lexR l k = .ok ts → ∀ t ∈ ts, TkGood t := by
 have hend : ∀ p, TkGood (0, [], p) := fun p => ⟨by simp, by simp, by simp, by simp, by simp, by simp⟩;intro n
 induction n with
 | zero =>
  intro l k ts hl _ hv h;obtain rfl : l = [] := List.length_eq_zero_iff.1 (by omega);rw [zaz [] k (by simp)] at h;injection h with h
  subst h;intro t ht;simp only [zK7] at ht;subst ht; exact hend _
 | succ n ih =>
  intro l k ts hl hl2 hv h;by_cases h0 : l.drop (skipN l) = []
  · rw [zaz l k h0] at h
    injection h with h
    subst h;intro t ht;simp only [zK7] at ht;subst ht; exact hend _
  · cases ht : tok (l.drop (skipN l)) with
    | none => rw [zcd l k h0 ht] at h; cases h
    | some x =>
     obtain ⟨t, m⟩ := x;rw [zbw l k t m ht] at h;have hle := zg2 ht;rw [zKa] at hle;obtain ⟨hg, hv2⟩ := zC9 (by rw [zKa]; omega) (zBq _ l (zJw _) hv) ht (k + skipN l);rw [taq] at hv2
     cases hr : lexR (l.drop (skipN l + m)) (k + skipN l + m) with
     | error e => rw [hr] at h; cases h
     | ok us =>
      rw [hr] at h;injection h with h
      subst h;intro y hy;rcases List.mem_append.1 hy with hy | hy
      · simp only [zK7] at hy
        subst hy; exact hg
      · exact ih _ _ us (by rw [zKa]; omega) (by rw [zKa]; omega) hv2 hr y hy
theorem zt0 {l : List UInt8} {ts : List Tk} (h : lexA l = .ok ts) (hl : l.length ≤ 900) : Good ts ∧ ts.length ≤ l.length + 1 := by
 obtain ⟨init, rfl, h1, h2, h3⟩ := zgj _ l 0 ts (zJw _) (zfn h).1
 have hlen : (init ++ [(0, [], 0 + l.length)]).length ≤ l.length + 1 := by
  simp only [zK5, zK2, zKc]; omega
 have hv : Val l := by
  have := bd_le l.length l 0 (zJw _);unfold lexA at h;rw [if_neg (by omega)] at h;split at h
  · cases h
  · unfold Val; omega
 refine ⟨⟨zc8 h (by omega), by omega, fun k hk => ?_⟩, hlen⟩;refine zAp _ l 0 _ (zJw _) (by omega) hv (zfn h).1 _ ?_;unfold tkA;rw [zK3, zK1 hk];exact zKe hk
theorem zJ5 {l : List UInt8} {t : TreeD} (hl : l.length ≤ 500) (h : textR l = .ok t) : Whole t ∧ zb1 t := by
 unfold textR readM at h
 cases hA : lexA l with
 | error e => rw [hA] at h; cases h
 | ok ts =>
  obtain ⟨hG, hlen⟩ := zt0 hA (by omega);rw [hA] at h;dsimp only at h;have hw := zGy hG 257;have hr := zFk (ts := ts) 257 St.zero
  cases hM : textM ts 257 St.zero with
  | un => rw [hM] at h; cases h
  | bad c q => rw [hM] at h; cases h
  | ok u s' =>
   rw [hM] at h hr;rw [show (⟨0, 0, [], [], [], []⟩ : St) = St.zero from rfl, hM] at hw;dsimp only at h;split at h
   · injection h with h
     subst h;obtain ⟨⟨i, hI⟩, _⟩ := hw;have hk := hI.hk;simp only [Gr, zKc] at hr;exact zD6 hI (by omega) (by omega) (by omega)
   · cases h
end Go.Proofs.YtidmeodmkcomlaaGreatDoor
