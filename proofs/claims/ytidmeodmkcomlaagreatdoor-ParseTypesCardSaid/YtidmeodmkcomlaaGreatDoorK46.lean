/- A blank ahead of a text: each place is one further on. And the doors of parse. What a parser has built is in order at each step: every node is used once but -/
import Derived.Test.YtidmeodmkcomlaaGreatDoorK45
import Derived.Test.YtidmeodmkcomlaaGreatDoorK26
set_option linter.unusedSimpArgs false
set_option linter.unusedVariables false
namespace Go.Proofs.YtidmeodmkcomlaaGreatDoor
open Go Go.Proofs Go.RowKit
theorem bd_on : ∀ (n : Nat) (l : List UInt8) (k d : Nat), l.length ≤ n → bd l (k + d) = bd l k + d := by
 intro n
 induction n with
 | zero => intro l k d h; rw [zcw _ _ (by omega), zcw _ _ (by omega)]
 | succ n ih =>
  intro l k d h;by_cases h0 : 0 < l.length
  · by_cases hb : isBad l
    · rw [zfe _ _ hb, zfe _ _ hb]
    · have := zbl l h0
      rw [zd3 _ _ h0 hb, zd3 _ _ h0 hb, show k + d + (D l).2 = k + (D l).2 + d by omega];exact ih _ _ _ (by simp only [zKa]; omega)
  · rw [zcw _ _ (by omega), zcw _ _ (by omega)]
theorem zjy (c : UInt8) (l : List UInt8) (h : c.toNat < 128) : D (c :: l) = (c.toNat, 1) := by
 unfold D Go.Lib.decodeN;simp [h]
theorem zgy (c : UInt8) (l : List UInt8) (h : c.toNat < 128) (k : Nat) : bd (c :: l) k = bd l k + 1 := by
 have hD := zjy c l h;have hb : ¬ isBad (c :: l) := by unfold isBad; rw [hD]; simp; omega
 rw [zd3 _ _ (by simp) hb, hD];exact bd_on _ l k 1 (zJw _)
def TreeD.sh (d : Nat) (t : TreeD) : TreeD := ⟨t.nodes.map (shT d), t.types.map (shY d), t.aliases.map (shA d)⟩
structure Inv (n : Nat) (s : St) (p q : List Nat) : Prop where
 hk : s.k < n
 nod : ∀ (j : Nat) (x : TermD), s.t1[j]? = some x → (∀ k ∈ x.kids, 0 ≤ k ∧ k < (j : Int)) ∧ (∀ k ∈ x.types, 0 ≤ k ∧ k < (s.t2.length : Int)) ∧ termB x = true ∧ zbb x
 typ : ∀ (j : Nat) (x : TypD), s.t2[j]? = some x → (∀ k ∈ x.kids, 0 ≤ k ∧ k < (j : Int)) ∧ typB x = true ∧ zfg x
 ali : ∀ x ∈ s.t3, 0 ≤ x.type ∧ x.type < (s.t2.length : Int) ∧ zbo (tl x.name) = true ∧ x.name.size ≤ 1000
 pN : ∀ a : Nat, (nats (s.t1.flatMap (·.kids))).count a + p.count a = if a < s.t1.length then 1 else 0
 pT : ∀ a : Nat, (nats (s.t1.flatMap (·.types))).count a + (nats (s.t2.flatMap (·.kids))).count a + (nats (s.t3.map (·.type))).count a + q.count a = if a < s.t2.length then 1 else 0
 few : s.t3.length ≤ s.k
 big : s.t1.length ≤ 65536 ∧ s.t2.length ≤ 65536
def Wh {α : Type} (s : St) (post : α → St → Prop) : R3 α → Prop
 | .ok i s' => post i s' ∧ s.k ≤ s'.k ∧ ∀ x ∈ s.m, x ∈ s'.m
 | _ => True
section
variable {n : Nat} {ts : List Tk} {α β : Type} {s : St} {p q : List Nat}
theorem Wh.bind {post1 : α → St → Prop} {post : β → St → Prop} {P : R3 α} {f : α → St → R3 β} (h : Wh s post1 P) (k : ∀ i s1, P = .ok i s1 → post1 i s1 → s.k ≤ s1.k → (∀ x ∈ s.m, x ∈ s1.m) → Wh s1 post (f i s1)) : Wh s post (P.bind f) := by
 cases P with
 | ok i s1 =>
  obtain ⟨h1, h2, h3⟩ := h;have := k i s1 rfl h1 h2 h3;show Wh s post (f i s1)
  cases hf : f i s1 with
  | ok j s2 =>
   rw [hf] at this;obtain ⟨g1, g2, g3⟩ := this;exact ⟨g1, zK4 h2 g2, fun x hx => g3 x (h3 x hx)⟩
  | bad e p => trivial
  | un => trivial
 | bad e p => trivial
 | un => trivial
theorem Wh.imp {post1 post : α → St → Prop} {P : R3 α} (h : Wh s post1 P) (k : ∀ i s1, P = .ok i s1 → post1 i s1 → s.k ≤ s1.k → (∀ x ∈ s.m, x ∈ s1.m) → post i s1) : Wh s post P := by
 cases P with
 | ok i s1 => exact ⟨k i s1 rfl h.1 h.2.1 h.2.2, h.2⟩
 | bad e p => trivial
 | un => trivial
theorem Wh.moved {post : α → St → Prop} {P : R3 α} {s1 : St} (h : Wh s1 post P) (hk : s.k ≤ s1.k) (hm : s1.m = s.m) : Wh s post P := by
 cases P with
 | ok i s2 => exact ⟨h.1, zK4 hk h.2.1, fun x hx => h.2.2 x (by rw [hm]; exact hx)⟩
 | bad e p => trivial
 | un => trivial
theorem Wh.ok_ {post : α → St → Prop} {i : α} (h : post i s) : Wh s post (.ok i s) := ⟨h, zJw _, fun _ h => h⟩
theorem Inv.re {p' q' : List Nat} (h : Inv n s p q) (hp : ∀ a, p'.count a = p.count a) (hq : ∀ a, q'.count a = q.count a) : Inv n s p' q' := ⟨h.hk, h.nod, h.typ, h.ali, fun a => by rw [hp]; exact h.pN a, fun a => by rw [hq]; exact h.pT a, h.few, h.big⟩
theorem Inv.go {s' : St} (h : Inv n s p q) (hk : s'.k < n) (hle : s.k ≤ s'.k) (h1 : s'.t1 = s.t1) (h2 : s'.t2 = s.t2) (h3 : s'.t3 = s.t3) : Inv n s' p q :=
 ⟨hk, by rw [h1, h2]; exact h.nod, by rw [h2]; exact h.typ, by rw [h3, h2]; exact h.ali, by rw [h1]; exact h.pN, by rw [h1, h2, h3]; exact h.pT, by rw [h3]; exact zK4 h.few hle, by rw [h1, h2]; exact h.big⟩
theorem Inv.ltT (h : Inv n s p q) {a : Nat} (ha : a ∈ q) : a < s.t2.length := by
 have h1 := h.pT a;have h2 := List.count_pos_iff.2 ha;by_cases h3 : a < s.t2.length
 · exact h3
 · rw [if_neg h3] at h1; omega
theorem zld {ks : List Int} {k : Int} (h : k ∈ ks) : k.toNat ∈ nats ks := List.mem_map.2 ⟨k, h, rfl⟩
theorem zk6 {x : TypD} (h : Inv n s p (nats x.kids ++ q)) (h0 : ∀ k ∈ x.kids, 0 ≤ k) (hB : typB x = true) (hF : zfg x) : Wh s (fun i s' => Inv n s' p (i :: q)) (newY s x) := by
 unfold newY;split
 · rename_i hlt
   refine ⟨⟨h.hk, fun j y hy => ?_, fun j y hy => ?_, fun y hy => ?_, h.pN, fun a => ?_, h.few, ⟨h.big.1, by show (s.t2 ++ [x]).length ≤ 65536; rw [zK5]; exact hlt⟩⟩, zJw _, fun _ h => h⟩
   · have := h.nod j y hy
     refine ⟨this.1, fun k hk => ⟨(this.2.1 k hk).1, ?_⟩, this.2.2⟩;have := (this.2.1 k hk).2;show k < ((s.t2 ++ [x]).length : Int)
     rw [zK5];simp only [zK2, zKc];omega
   · have hy : (s.t2 ++ [x])[j]? = some y := hy
     rcases Nat.lt_trichotomy j s.t2.length with g | g | g
     · rw [zKm g] at hy
       exact h.typ j y hy
     · subst g
       rw [zKl (zJw _), Nat.sub_self] at hy;simp only [gB, zKt] at hy;subst hy;refine ⟨fun k hk => ⟨h0 k hk, ?_⟩, hB, hF⟩;have := h.ltT (List.mem_append_left _ (zld hk)); have := h0 k hk; omega
     · rw [List.getElem?_eq_none (by simp; omega)] at hy; cases hy
   · have := h.ali y hy
     refine ⟨this.1, ?_, this.2.2⟩;have := this.2.1;show y.type < ((s.t2 ++ [x]).length : Int)
     rw [zK5];simp only [zK2, zKc];omega
   · have := h.pT a
     show (nats (s.t1.flatMap (·.types))).count a + (nats ((s.t2 ++ [x]).flatMap (·.kids))).count a + (nats (s.t3.map (·.type))).count a + (s.t2.length :: q).count a = if a < (s.t2 ++ [x]).length then 1 else 0
     simp only [List.flatMap_append, List.flatMap_cons, List.flatMap_nil, List.append_nil, zb6, zKk, List.count_cons, zK5, zK2, zKc, beq_iff_eq] at this ⊢;split at this <;> split <;> split <;> omega
 · trivial
end
structure TkGood (t : Tk) : Prop where
 len : t.2.1.length ≤ 1000
 name : t.1 = 1 → zac t.2.1 = true
 ali : t.1 = 2 → zbo t.2.1 = true
 tag : t.1 = 3 → tagB t.2.1 = true
 str : t.1 = 6 → lineB (bs t.2.1) = true
 int : t.1 = 4 → ∃ v : Int, Lib.parseIntB 64 t.2.1 = .ok v ∧ 0 ≤ v ∧ v ≤ 9223372036854775807
structure Good (ts : List Tk) : Prop where
 ok : TsOk ts
 few : ts.length ≤ 1000
 tk : ∀ k, k < ts.length → TkGood (tkA ts k)
def Still (n : Nat) (s s' : St) : Prop := s'.t1 = s.t1 ∧ s'.t2 = s.t2 ∧ s'.t3 = s.t3 ∧ s.k + 1 ≤ s'.k ∧ s'.k < n
theorem Inv.still {n : Nat} {s s' : St} {p q : List Nat} (h : Inv n s p q) (k : Still n s s') : Inv n s' p q := h.go k.2.2.2.2 (by have := k.2.2.2.1; omega) k.1 k.2.1 k.2.2.1
theorem tl_bs (l : List UInt8) : tl (bs l) = l := by simp [tl, bs]
theorem zbh (l : List UInt8) : (bs l).size = l.length := by simp [bs, ByteArray.size]
theorem zIs {a b : List UInt8} (h : bs a = bs b) : a = b := by rw [← tl_bs a, ← tl_bs b, h]
theorem zde : (bs []).toList.isEmpty = true := by rw [Lib.toList_data]; rfl
theorem zpd {l : List (List UInt8)} (h : l.Nodup) : (bss l).Nodup := by
 unfold bss;unfold List.Nodup at *;rw [List.pairwise_map];exact h.imp (fun hab e => hab (zIs e))
section
variable {ts : List Tk} {s : St} {p q : List Nat}
theorem zfi (hG : Good ts) {kind : Nat} (h0 : kind ≠ 0) (hk : s.k < ts.length) : Wh s (fun t s' => Still ts.length s s' ∧ TkGood t ∧ t.1 = kind) (zag ts kind s) := by
 unfold zag;split
 · rename_i h
   exact ⟨⟨⟨rfl, rfl, rfl, zJw _, hG.ok.step hk (by omega)⟩, hG.tk _ hk, h⟩, Nat.le_succ _, fun _ h => h⟩
 · trivial
theorem zbt (hG : Good ts) {x : List UInt8} (hk : s.k < ts.length) : Wh s (fun _ s' => Still ts.length s s') (mustM ts x s) := by
 unfold mustM;split
 · rename_i h
   exact ⟨⟨rfl, rfl, rfl, zJw _, hG.ok.step hk (za0 h)⟩, Nat.le_succ _, fun _ h => h⟩
 · trivial
theorem zqm (hG : Good ts) {o kind : Nat} (h0 : kind ≠ 0) (hk : s.k < ts.length) : Wh s (fun x s' => Still ts.length s s' ∧ x.length ≤ 1000 ∧ (kind = 1 → zac x = true) ∧ (kind = 3 → tagB x = true) ∧ (o, x) ∉ s.m ∧ (o, x) ∈ s'.m) (ownM ts o kind s) := by
 unfold ownM;have ht := zfi hG h0 hk;unfold zag at ht ⊢;by_cases he : (tkA ts s.k).1 = kind
 · rw [if_pos he] at ht ⊢
   obtain ⟨⟨h1, h2, h3⟩, h4, _⟩ := ht;show Wh s _ (if (s.on 1).m.contains (o, (tkA ts s.k).2.1) = true then _ else _)
   split
   · trivial
   · rename_i hc
     refine ⟨⟨h1, h2.len, fun e => h2.name (by omega), fun e => h2.tag (by omega), fun hm => hc (List.contains_iff_mem.2 hm), List.mem_cons_self ..⟩, h4, fun x hx => List.mem_cons_of_mem _ hx⟩
 · rw [if_neg he]; trivial
def WhY (ts : List Tk) (P : St → R3 Nat) : Prop := ∀ (s : St) (p q : List Nat), Inv ts.length s p q → Wh s (fun i s' => Inv ts.length s' p (i :: q)) (P s)
def Ns (o : Nat) (c : List UInt8 → Bool) (ns : List (List UInt8)) (s : St) : Prop := (∀ x ∈ ns, c x = true ∧ x.length ≤ 1000 ∧ (o, x) ∈ s.m) ∧ ns.Nodup ∧ ns.length ≤ s.k
theorem Ns.on {o : Nat} {c : List UInt8 → Bool} {ns : List (List UInt8)} {s s' : St} (h : Ns o c ns s) (hk : s.k ≤ s'.k) (hm : ∀ x ∈ s.m, x ∈ s'.m) : Ns o c ns s' := ⟨fun x hx => ⟨(h.1 x hx).1, (h.1 x hx).2.1, hm _ (h.1 x hx).2.2⟩, h.2.1, zK4 h.2.2 hk⟩
theorem Ns.add {o : Nat} {c : List UInt8 → Bool} {ns : List (List UInt8)} {s s' : St} {x : List UInt8} (h : Ns o c ns s) (hk : s.k + 1 ≤ s'.k) (hm : ∀ x ∈ s.m, x ∈ s'.m) (hx : c x = true) (hl : x.length ≤ 1000) (hn : (o, x) ∉ s.m) (hy : (o, x) ∈ s'.m) : Ns o c (ns ++ [x]) s' := by
 refine ⟨fun y hy' => ?_, ?_, by have := h.2.2; simp only [zK5, zK2, zKc]; omega⟩
 · rcases List.mem_append.1 hy' with hy' | hy'
   · exact ⟨(h.1 y hy').1, (h.1 y hy').2.1, hm _ (h.1 y hy').2.2⟩
   · simp only [zK7] at hy'; subst hy'; exact ⟨hx, hl, hy⟩
 · rw [List.nodup_append]
   refine ⟨h.2.1, by simp, fun a ha b hb e => ?_⟩;simp only [zK7] at hb;subst hb; subst e;exact hn (h.1 _ ha).2.2
theorem Ns.once {o : Nat} {c : List UInt8 → Bool} {ns : List (List UInt8)} {s : St} (h : Ns o c ns s) : onceB c (bss ns) = true := by
 unfold onceB;rw [zKq];refine ⟨fun x hx => ?_, zpd h.2.1⟩;obtain ⟨y, hy, rfl⟩ := List.mem_map.1 hx;rw [tl_bs];exact (h.1 y hy).1
theorem Ns.few {o : Nat} {c : List UInt8 → Bool} {ns : List (List UInt8)} {s : St} (h : Ns o c ns s) : ∀ x ∈ bss ns, x.size ≤ 1000 := fun x hx => by
 obtain ⟨y, hy, rfl⟩ := List.mem_map.1 hx;rw [zbh];exact (h.1 y hy).2.1
theorem zdj (l : List (List UInt8)) : (bss l).length = l.length := zKd _
theorem zg0 (ks : List Int) (i : Nat) : nats (ks ++ [(i : Int)]) = nats ks ++ [i] := by simp [nats]
structure Side (n : Nat) (J : List Nat → St → Prop) : Prop where
 hk : ∀ {l s}, J l s → s.k < n
 still : ∀ {l s s'}, J l s → Still n s s' → J l s'
 re : ∀ {l l' s}, J l s → (∀ a, l'.count a = l.count a) → J l' s
theorem zIf (n : Nat) (p q : List Nat) : Side n (fun l s => Inv n s p (l ++ q)) := ⟨fun h => h.hk, fun h k => h.still k, fun h k => h.re (fun _ => rfl) (fun a => by rw [zKk, zKk, k])⟩
theorem zwe (hG : Good ts) {P : St → R3 Nat} {J : List Nat → St → Prop} (hJ : Side ts.length J) (hP : ∀ s l, J l s → Wh s (fun i s' => J (i :: l) s') (P s)) (o : Nat) (sign : List UInt8) : ∀ (f : Nat) (ns : List (List UInt8)) (ks : List Int) (s : St), J (nats ks) s → (∀ k ∈ ks, 0 ≤ k) → Ns o zac ns s → ns.length = ks.length →
 Wh s (fun r s' => J (nats r.2) s' ∧ (∀ k ∈ r.2, 0 ≤ k) ∧ Ns o zac r.1 s' ∧ r.1.length = r.2.length) (zbc ts P o sign f ns ks s) := by
 intro f
 induction f with
 | zero => intro ns ks s _ _ _ _; trivial
 | succ f ih =>
  intro ns ks s h0 h1 h2 h3;unfold zbc;refine (zqm hG (by decide) (hJ.hk h0)).bind (fun x s1 _ a1 b1 c1 => ?_);obtain ⟨a1, a2, a3, _, a5, a6⟩ := a1;have j1 := hJ.still h0 a1;have n1 : Ns o zac (ns ++ [x]) s1 := h2.add a1.2.2.2.1 c1 (a3 rfl) a2 a5 a6;refine (zbt hG (hJ.hk j1)).bind (fun _ s2 _ a2 b2 c2 => ?_);have j2 := hJ.still j1 a2;have n2 := n1.on b2 c2;refine (hP s2 _ j2).bind (fun i s3 _ j3 b3 c3 => ?_);have n3 := n2.on b3 c3;have j3' : J (nats (ks ++ [(i : Int)])) s3 := hJ.re j3 (fun a => by rw [zg0]; simp only [zKk, List.count_cons, List.count_nil]; omega)
  have h1' : ∀ k ∈ ks ++ [(i : Int)], 0 ≤ k := fun k hk => by
   rcases List.mem_append.1 hk with hk | hk
   · exact h1 k hk
   · simp only [zK7] at hk; omega
  have h3' : (ns ++ [x]).length = (ks ++ [(i : Int)]).length := by simp [h3]
  split
  · rename_i h
    have hs : Still ts.length s3 (s3.on 1) := ⟨rfl, rfl, rfl, zJw _, hG.ok.step (hJ.hk j3) (za0 h)⟩;exact ⟨⟨hJ.still j3' hs, h1', n3.on (Nat.le_succ _) (fun _ h => h), h3'⟩, Nat.le_succ _, fun _ h => h⟩
  · exact (zbt hG (hJ.hk j3)).bind (fun _ s4 _ a4 b4 c4 => ih _ _ s4 (hJ.still j3' a4) h1' (n3.on b4 c4) h3')
theorem zoy (hG : Good ts) {P : St → R3 Nat} {J : List Nat → St → Prop} (hJ : Side ts.length J) (hP : ∀ s l, J l s → Wh s (fun i s' => J (i :: l) s') (P s)) (o : Nat) (sign : List UInt8) (h : J [] s) :
 Wh s (fun r s' => J (nats r.2) s' ∧ (∀ k ∈ r.2, 0 ≤ k) ∧ Ns o zac r.1 s' ∧ r.1.length = r.2.length) (zan ts P o sign s) := by
 have h2 : Ns o zac [] s := ⟨fun x hx => (by cases hx), List.nodup_nil, zK8 _⟩;unfold zan;split
 · rename_i he
   have hs : Still ts.length s (s.on 1) := ⟨rfl, rfl, rfl, zJw _, hG.ok.step (hJ.hk h) (za0 he)⟩;exact ⟨⟨hJ.still h hs, fun x hx => (by cases hx), ⟨h2.1, h2.2.1, zK8 _⟩, rfl⟩, Nat.le_succ _, fun _ h => h⟩
 · exact zwe hG hJ hP o sign _ [] [] s h (fun x hx => (by cases hx)) h2 rfl
theorem zb4 (hG : Good ts) (hk : s.k < ts.length) (h0 : (tkA ts s.k).1 ≠ 0) : Still ts.length s (s.on 1) := ⟨rfl, rfl, rfl, zJw _, hG.ok.step hk h0⟩
theorem Wh.on {α : Type} {post : α → St → Prop} {R : R3 α} (h : Wh (s.on 1) post R) : Wh s post R := h.moved (Nat.le_succ _) rfl
theorem zw7 {t : Tk} (hg : TkGood t) {x : TypD} (h : zc0 t = some x) : x.kids = [] ∧ typB x = true ∧ zfg x := by
 have hl := hg.len;unfold zc0 at h;split at h
 · rename_i h2
   injection h with h; subst h
   refine ⟨rfl, ?_, by simp [zfg, zbh]; omega⟩;simp [typB, za6, tl_bs, hg.ali h2]
 split at h
 · rename_i h2
   injection h with h; subst h
   have : wordsY.findIdx (fun x => x == t.2.1) < 7 := List.findIdx_lt_length_of_exists (by simpa [List.any_eq_true] using h2.2);refine ⟨rfl, ?_, by simp [zfg, zbh]⟩;unfold typB;rw [if_pos ⟨by dsimp only; omega, by dsimp only; omega⟩];simp [za6, zde]
 · cases h
theorem zm6 (hG : Good ts) {T : St → R3 Nat} (hT : WhY ts T) : WhY ts (zay ts T) := by
 intro s p q h;unfold zay;split
 · rename_i he
   have a0 := zb4 hG h.hk (za0 he);exact (((hT (s.on 1) p q (h.still a0)).bind (fun i s1 _ j1 b1 c1 => (zbt hG j1.hk).bind (fun _ s2 _ a2 b2 c2 => Wh.ok_ (j1.still a2))))).on
 split
 · rename_i he
   have a0 := zb4 hG h.hk (za0 he);refine ((zoy hG (zIf ts.length p q) (fun s l hj => hT s p (l ++ q) hj) (posA ts s) [58] (s := s.on 1) (h.still a0)).bind (fun r s1 _ j1 b1 c1 => ?_)).on;obtain ⟨j1, h1, hn, hl⟩ := j1;have h5 : r.1.length ≤ 1000 := zK4 hn.2.2 (by have := j1.hk; have := hG.few; omega);refine zk6 j1 h1 ?_ ⟨by simp [zbh], by rw [zdj]; exact h5, hn.few, by dsimp only; omega⟩;simp [typB, za6, zde, hn.once, zdj, hl]
 split
 · rename_i x hx
   have hg := zw7 (hG.tk _ h.hk) hx;have a0 := zb4 hG h.hk (zf8 hx);exact (zk6 (s := s.on 1) (by rw [hg.1]; exact h.still a0) (by rw [hg.1]; intro k hk; cases hk) hg.2.1 hg.2.2).on
 · trivial
end
section
variable {ts : List Tk} {s : St} {p q : List Nat}
def Vo (d : Nat) (y : Vr) (s : St) : Prop := Ns y.1 tagB y.2.1 s ∧ y.2.1.length = y.2.2.length + d ∧ ∀ k ∈ y.2.2, 0 ≤ k
theorem Vo.on {d : Nat} {y : Vr} {s s' : St} (h : Vo d y s) (hk : s.k ≤ s'.k) (hm : ∀ x ∈ s.m, x ∈ s'.m) : Vo d y s' := ⟨h.1.on hk hm, h.2⟩
theorem zFp (hG : Good ts) {y : Vr} (h : Inv ts.length s p q) (hv : Vo 0 y s) : Wh s (fun r s' => Inv ts.length s' p q ∧ r.1.2.2 = y.2.2 ∧ (∀ o, r.2 = some o → Vo 0 r.1 s') ∧ (r.2 = none → Vo 1 r.1 s')) (itemM ts y s) := by
 unfold itemM;split
 · rename_i he
   have a0 := zb4 hG h.hk (za0 he);exact ⟨⟨h.still a0, rfl, fun _ _ => hv.on (Nat.le_succ _) (fun _ h => h), fun e => (by cases e)⟩, Nat.le_succ _, fun _ h => h⟩
 refine Wh.bind (post1 := fun _ s' => Inv ts.length s' p q ∧ Vo 0 y s') ?_ (fun _ s1 _ j1 b1 c1 => ?_)
 · split
   · exact Wh.ok_ ⟨h, hv⟩
   · exact (zbt hG h.hk).imp (fun _ s1 _ a b c => ⟨h.still a, hv.on b c⟩)
 obtain ⟨j1, v1⟩ := j1;split
 · rename_i he
   have a0 := zb4 hG j1.hk (za0 he);refine Wh.on ((zbt hG a0.2.2.2.2).bind (fun _ s2 _ a2 b2 c2 => Wh.ok_ ⟨(j1.still a0).still a2, rfl, fun _ _ => v1.on (zK4 (Nat.le_succ _) b2) c2, fun e => (by cases e)⟩))
 · refine (zqm hG (by decide) j1.hk).bind (fun x s2 _ a2 b2 c2 => Wh.ok_ ?_)
   obtain ⟨a1, a2, _, a4, a5, a6⟩ := a2;refine ⟨j1.still a1, rfl, fun _ e => (by cases e), fun _ => ⟨v1.1.add a1.2.2.2.1 c2 (a4 rfl) a2 a5 a6, ?_, v1.2.2⟩⟩;have := v1.2.1;simp only [zK5, zK2, zKc];omega
theorem zsm (hG : Good ts) {y : Vr} (h : s.k < ts.length) (hv : Vo 0 y s) (o : Bool) : typB (vrD y o) = true ∧ zfg (vrD y o) := by
 have h5 : y.2.1.length ≤ 1000 := zK4 hv.1.2.2 (by have := hG.few; omega);have hl := hv.2.1;refine ⟨?_, by simp [zbh], by rw [zdj]; exact h5, hv.1.few, by dsimp only; omega⟩;simp [typB, za6, zde, hv.1.once, zdj, hl]
def vqs (r : List Vr) (q : List Nat) : List Nat := r.flatMap (fun z => nats z.2.2) ++ q
theorem zsf (hG : Good ts) {T : St → R3 Nat} (hT : WhY ts T) : ∀ (f : Nat) (x : Vr) (r : List Vr) (s : St), Inv ts.length s p (vqs (x :: r) q) → Vo 0 x s → (∀ z ∈ r, Vo 1 z s) → Wh s (fun i s' => Inv ts.length s' p (i :: q)) (zaq ts T f x r s) := by
 intro f
 induction f with
 | zero => intro x r s _ _ _; trivial
 | succ f ih =>
  intro x r s h hv hr;unfold zaq;refine (zFp hG h hv).bind (fun y s1 _ j1 b1 c1 => ?_);obtain ⟨y, oo⟩ := y;obtain ⟨j1, e1, h1, h2⟩ := j1;dsimp only at e1 h1 h2;have hr1 : ∀ z ∈ r, Vo 1 z s1 := fun z hz => (hr z hz).on b1 c1
  cases oo with
  | some o =>
   dsimp only;have hy := h1 o rfl;have ht := zsm hG j1.hk hy o;have j1' : Inv ts.length s1 p (nats (vrD y o).kids ++ vqs r q) := j1.re (fun _ => rfl) (fun a => by simp [vqs, e1]);refine (zk6 j1' hy.2.2 ht.1 ht.2).bind (fun i s2 _ j2 b2 c2 => ?_)
   cases r with
   | nil => exact Wh.ok_ (j2.re (fun _ => rfl) (fun a => by simp [vqs]))
   | cons z r =>
    refine ih _ r s2 (j2.re (fun _ => rfl) (fun a => by simp only [vqs, List.flatMap_cons, zKk, List.count_cons, zg0, List.count_nil]; omega)) ?_ (fun z' hz => (hr1 z' (List.mem_cons_of_mem _ hz)).on b2 c2);have hz := (hr1 z (List.mem_cons_self ..)).on b2 c2;refine ⟨hz.1, ?_, fun k hk => ?_⟩
    · have := hz.2.1
      simp only [zK5, zK2, zKc];omega
    · rcases List.mem_append.1 hk with hk | hk
      · exact hz.2.2 k hk
      · simp only [zK7] at hk; omega
  | none =>
   dsimp only;have hy := h2 rfl;split
   · rename_i he
     have a0 := zb4 hG j1.hk (za0 he);refine Wh.on (ih (posA ts s1, [], []) (y :: r) (s1.on 1) ((j1.still a0).re (fun _ => rfl) (fun a => by simp [vqs, nats, e1])) ⟨⟨fun _ hx => (by cases hx), List.nodup_nil, zK8 _⟩, rfl, fun _ hx => (by cases hx)⟩ (fun z hz => ?_));rcases List.mem_cons.1 hz with rfl | hz
     · exact hy.on (Nat.le_succ _) (fun _ h => h)
     · exact (hr1 z hz).on (Nat.le_succ _) (fun _ h => h)
   · refine (zm6 hG hT s1 _ _ j1).bind (fun i s2 _ j2 b2 c2 => ?_)
     refine ih (y.1, y.2.1, y.2.2 ++ [(i : Int)]) r s2 (j2.re (fun _ => rfl) (fun a => by simp only [vqs, List.flatMap_cons, zKk, List.count_cons, zg0, List.count_nil, e1]; omega)) ?_ (fun z hz => (hr1 z hz).on b2 c2);have hz := hy.on b2 c2;refine ⟨hz.1, ?_, fun k hk => ?_⟩
     · have := hz.2.1
       simp only [zK5, zK2, zKc];omega
     · rcases List.mem_append.1 hk with hk | hk
       · exact hz.2.2 k hk
       · simp only [zK7] at hk; omega
theorem zya (hG : Good ts) {T : St → R3 Nat} (hT : WhY ts T) : WhY ts (zak ts T) := by
 intro s p q h;unfold zak;split
 · rename_i he
   unfold zbp;have a0 := zb4 hG h.hk (za0 he);exact Wh.on (zsf hG hT _ _ [] (s.on 1) ((h.still a0).re (fun _ => rfl) (fun a => by simp [vqs, nats])) ⟨⟨fun _ hx => (by cases hx), List.nodup_nil, zK8 _⟩, rfl, fun _ hx => (by cases hx)⟩ (fun _ hx => (by cases hx)))
 · exact zm6 hG hT s p q h
theorem Inv.op {n : Nat} {s s' : St} {p q : List Nat} (h : Inv n s p q) (hk : s'.k = s.k) (h1 : s'.t1 = s.t1) (h2 : s'.t2 = s.t2) (h3 : s'.t3 = s.t3) : Inv n s' p q := h.go (by rw [hk]; exact h.hk) (by omega) h1 h2 h3
theorem zur (hG : Good ts) : ∀ (f : Nat), WhY ts (typeM ts f) := by
 intro f
 induction f with
 | zero => intro s p q _; trivial
 | succ f ih =>
  intro s p q h;unfold typeM;split
  · trivial
  refine Wh.moved (s1 := s.up) ((zya hG ih s.up p q (h.op rfl rfl rfl rfl)).bind (fun i s1 _ j1 b1 c1 => ?_)) (zJw _) rfl;split
  · rename_i he
    have a0 := zb4 hG j1.hk (za0 he);refine Wh.on ((ih (s1.on 1) p (i :: q) (j1.still a0)).bind (fun j s2 _ j2 b2 c2 => ?_));refine Wh.bind (post1 := fun i s' => Inv ts.length s' p (i :: q)) (zk6 (j2.re (fun _ => rfl) (fun a => by simp only [nats, List.map_cons, List.map_nil, Int.toNat_natCast, zKk, List.count_cons, List.count_nil]; omega)) (by intro k hk; simp only [zKf, zKn, or_false] at hk; omega) (by simp [typB, za6, zde]) (by simp [zfg, zbh])) (fun l s3 _ j3 b3 c3 => ⟨j3.op rfl rfl rfl rfl, zJw _, fun _ h => h⟩)
  · exact ⟨j1.op rfl rfl rfl rfl, zJw _, fun _ h => h⟩
end
section
variable {ts : List Tk} {s : St} {p q : List Nat}
variable {E T P : St → R3 Nat}
def flatA (ps : List (List UInt8 × List UInt8)) : List (List UInt8) := ps.flatMap (fun z => [z.1, z.2])
def Am (o : Nat) (ps : List (List UInt8 × List UInt8)) (s : St) : Prop := (∀ z ∈ ps, tagB z.1 = true ∧ z.1.length ≤ 1000 ∧ zac z.2 = true ∧ z.2.length ≤ 1000 ∧ (o, z.1) ∈ s.m) ∧ (ps.map (·.1)).Nodup ∧ 2 * ps.length ≤ s.k
theorem Am.on {o : Nat} {ps : List (List UInt8 × List UInt8)} {s s' : St} (h : Am o ps s) (hk : s.k ≤ s'.k) (hm : ∀ x ∈ s.m, x ∈ s'.m) : Am o ps s' := ⟨fun x hx => by have := h.1 x hx; exact ⟨this.1, this.2.1, this.2.2.1, this.2.2.2.1, hm _ this.2.2.2.2⟩, h.2.1, zK4 h.2.2 hk⟩
theorem Am.few {o : Nat} {ps : List (List UInt8 × List UInt8)} {s : St} (h : Am o ps s) : ∀ x ∈ bss (flatA ps), x.size ≤ 1000 := fun x hx => by
 obtain ⟨y, hy, rfl⟩ := List.mem_map.1 hx;obtain ⟨z, hz, hy⟩ := List.mem_flatMap.1 hy;rw [zbh];simp only [zKf, zKn, or_false] at hy;rcases hy with rfl | rfl
 · exact (h.1 z hz).2.1
 · exact (h.1 z hz).2.2.2.1
theorem zBt (hG : Good ts) : Inv ts.length ⟨0, 0, [], [], [], []⟩ [] [] := ⟨hG.ok.pos, fun j x hx => by simp at hx, fun j x hx => by simp at hx, fun x hx => by simp at hx, fun a => by simp [nats], fun a => by simp [nats], zJw _, by simp⟩
end
set_option maxHeartbeats 4000000
def Val (l : List UInt8) : Prop := bd l 0 = l.length
theorem Val.nil : Val [] := zcw [] 0 rfl
theorem zcq {c : UInt8} {r : List UInt8} (h : c.toNat < 128) : Val (c :: r) ↔ Val r := by
 unfold Val;rw [zgy c r h, zK2];omega
theorem zl3 {l : List UInt8} (h : Val l) (h0 : 0 < l.length) : ¬ isBad l ∧ Val (l.drop (D l).2) := by
 unfold Val at *;by_cases hb : isBad l
 · rw [zfe _ _ hb] at h; omega
 refine ⟨hb, ?_⟩;have hD := zbl l h0;rw [zd3 _ _ h0 hb, bd_on _ (l.drop (D l).2) 0 (D l).2 (zJw _)] at h;rw [zKa];omega
theorem zIv {l : List UInt8} (hb : ¬ isBad l) (h0 : 0 < l.length) (h : Val (l.drop (D l).2)) : Val l := by
 unfold Val at *;have hD := zbl l h0;rw [zd3 _ _ h0 hb, bd_on _ (l.drop (D l).2) 0 (D l).2 (zJw _), h, zKa];omega
theorem zis {l : List UInt8} (hb : ¬ isBad l) : ((D l).2 = 1 ∧ (l.getD 0 0).toNat < 128 ∧ (D l).1 = (l.getD 0 0).toNat) ∨ (128 ≤ (D l).1 ∧ ∀ i, i < (D l).2 → 128 ≤ (l.getD i 0).toNat) := by
 unfold isBad at hb;unfold D Go.Lib.decodeN at *;revert hb
 repeat' split
 all_goals (dsimp only; intro hb)
 all_goals first
  | (exfalso; omega)
  | (left; omega)
  | (right; refine ⟨by omega, fun i hi => ?_⟩; rcases i with _ | _ | _ | _ | i <;> (try simp only [Nat.zero_add, Nat.reduceAdd]) <;> omega)
set_option maxRecDepth 100000 in
theorem zI1 {l : List UInt8} (hb : ¬ isBad l) (h0 : 0 < l.length) : D (l.take (D l).2) = D l := by
 have hD := zbl l h0
 have hg : ∀ w i, i < w → (l.take w).getD i 0 = l.getD i 0 := fun w i hi => by
  simp only [zK3, List.getElem?_take, if_pos hi]
 have hl : ∀ w, w ≤ l.length → (l.take w).length = w := fun w hw => by rw [zKi]; omega
 generalize hw : (D l).2 = w at hD ⊢;have e := hl w hD.2.2.1;unfold isBad at hb;unfold D Go.Lib.decodeN at hb hw ⊢;rw [e];revert hb hw
 have g0 := hg w 0 (by omega);rw [g0];have g1 := fun h => hg w 1 h;have g2 := fun h => hg w 2 h;have g3 := fun h => hg w 3 h;generalize (l.take w).getD 1 0 = a1 at *;generalize (l.take w).getD 2 0 = a2 at *;generalize (l.take w).getD 3 0 = a3 at *;intro hb hw;have hcase : w = 1 ∨ w = 2 ∨ w = 3 ∨ w = 4 := by omega
 rcases hcase with rfl | rfl | rfl | rfl
 · revert hb hw
   repeat' split
   all_goals (dsimp only; intro hb hw)
   all_goals first | with_reducible rfl | (exfalso; omega)
 · rw [g1 (by omega)]
   revert hb hw
   repeat' split
   all_goals (dsimp only; intro hb hw)
   all_goals first | with_reducible rfl | (exfalso; omega)
 · rw [g1 (by omega), g2 (by omega)]
   revert hb hw
   repeat' split
   all_goals (dsimp only; intro hb hw)
   all_goals first | with_reducible rfl | (exfalso; omega)
 · rw [g1 (by omega), g2 (by omega), g3 (by omega)]
   revert hb hw
   repeat' split
   all_goals (dsimp only; intro hb hw)
   all_goals first | with_reducible rfl | (exfalso; omega)
def Gr {α : Type} (d : Int) (s : St) : R3 α → Prop
 | .ok _ s' => (s'.t1.length : Int) + s'.t2.length + 2 * s.k + d ≤ s.t1.length + s.t2.length + 2 * s'.k
 | _ => True
section
variable {α β : Type} {ts : List Tk}
theorem Gr.bind {d1 d2 : Int} {s : St} {P : R3 α} {f : α → St → R3 β} (h : Gr d1 s P) (k : ∀ i s1, Gr d2 s1 (f i s1)) : Gr (d1 + d2) s (P.bind f) := by
 cases P with
 | ok i s1 =>
  have := k i s1;show Gr _ s (f i s1)
  cases hf : f i s1 with
  | ok j s2 =>
   rw [hf] at this;simp only [Gr] at *;omega
  | bad e p => trivial
  | un => trivial
 | bad e p => trivial
 | un => trivial
theorem Gr.weak {d d' : Int} {s : St} {P : R3 α} (h : Gr d s P) (hd : d' ≤ d) : Gr d' s P := by
 cases P with
 | ok i s1 => simp only [Gr] at *; omega
 | bad e p => trivial
 | un => trivial
theorem Gr.on {d : Int} {n : Nat} {s : St} {P : R3 α} (h : Gr d (s.on n) P) : Gr (d + 2 * n) s P := by
 cases P with
 | ok i s1 =>
  simp only [Gr, St.on] at *;push_cast at h
  omega
 | bad e p => trivial
 | un => trivial
theorem Gr.moved {d : Int} {s s1 : St} {P : R3 α} (h : Gr d s1 P) (hk : s1.k = s.k) (h1 : s1.t1 = s.t1) (h2 : s1.t2 = s.t2) : Gr d s P := by
 cases P with
 | ok i s2 => simp only [Gr, hk, h1, h2] at *; exact h
 | bad e p => trivial
 | un => trivial
theorem Gr.ok_ {s : St} {i : α} : Gr 0 s (.ok i s) := by simp [Gr]
variable {P E T : St → R3 Nat}
end
end Go.Proofs.YtidmeodmkcomlaaGreatDoor
