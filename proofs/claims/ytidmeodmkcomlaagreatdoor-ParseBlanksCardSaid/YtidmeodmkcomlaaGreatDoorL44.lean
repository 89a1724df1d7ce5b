/- The rules keep what is built in order. -/
import Derived.Test.YtidmeodmkcomlaaGreatDoorL43
namespace Go.Proofs.YtidmeodmkcomlaaGreatDoor
open Go Go.Proofs Go.RowKit
structure TkGood (t : Tk) : Prop where
 len : t.2.1.length ≤ 1000
 name : t.1 = 1 → zac t.2.1 = true
 ali : t.1 = 2 → zbo t.2.1 = true
 tag : t.1 = 3 → tagB t.2.1 = true
 str : t.1 = 6 → lineB (bs t.2.1) = true
 int : t.1 = 4 → ∃ v : Int, Lib.parseIntB 64 t.2.1 = .ok v ∧ 0 ≤ v ∧ v ≤ 9223372036854775807
structure Good (ts : List Tk) : Prop where
 ok : TsOk ts
 few : ts.length ≤ 1000
 tk : ∀ k, k < ts.length → TkGood (tkA ts k)
def Still (n : Nat) (s s' : St) : Prop := s'.t1 = s.t1 ∧ s'.t2 = s.t2 ∧ s'.t3 = s.t3 ∧ s.k + 1 ≤ s'.k ∧ s'.k < n
theorem Inv.still {n : Nat} {s s' : St} {p q : List Nat} (h : Inv n s p q) (k : Still n s s') : Inv n s' p q := h.go k.2.2.2.2 (by have := k.2.2.2.1; omega) k.1 k.2.1 k.2.2.1
theorem tl_bs (l : List UInt8) : tl (bs l) = l := by simp [tl, bs]
theorem zbh (l : List UInt8) : (bs l).size = l.length := by simp [bs, ByteArray.size]
theorem zIs {a b : List UInt8} (h : bs a = bs b) : a = b := by rw [← tl_bs a, ← tl_bs b, h]
theorem zde : (bs []).toList.isEmpty = true := by rw [Lib.toList_data]; rfl
theorem zpd {l : List (List UInt8)} (h : l.Nodup) : (bss l).Nodup := by
 unfold bss;unfold List.Nodup at *;rw [List.pairwise_map];exact h.imp (fun hab e => hab (zIs e))
section
variable {ts : List Tk} {s : St} {p q : List Nat}
theorem zfi (hG : Good ts) {kind : Nat} (h0 : kind ≠ 0) (hk : s.k < ts.length) : Wh s (fun t s' => Still ts.length s s' ∧ TkGood t ∧ t.1 = kind) (zag ts kind s) := by
 unfold zag;split
 · rename_i h
   exact ⟨⟨⟨rfl, rfl, rfl, zJw _, hG.ok.step hk (by omega)⟩, hG.tk _ hk, h⟩, ta2 _, fun _ h => h⟩
 · trivial
theorem zbt (hG : Good ts) {x : List UInt8} (hk : s.k < ts.length) : Wh s (fun _ s' => Still ts.length s s') (mustM ts x s) := by
 unfold mustM;split
 · rename_i h
   exact ⟨⟨rfl, rfl, rfl, zJw _, hG.ok.step hk (za0 h)⟩, ta2 _, fun _ h => h⟩
 · trivial
theorem zqm (hG : Good ts) {o kind : Nat} (h0 : kind ≠ 0) (hk : s.k < ts.length) : Wh s (fun x s' => Still ts.length s s' ∧ x.length ≤ 1000 ∧ (kind = 1 → zac x = true) ∧ (kind = 3 → tagB x = true) ∧ (o, x) ∉ s.m ∧ (o, x) ∈ s'.m) (ownM ts o kind s) := by
 unfold ownM;have ht := zfi hG h0 hk;unfold zag at ht ⊢;by_cases he : (tkA ts s.k).1 = kind
 · rw [if_pos he] at ht ⊢
   obtain ⟨⟨h1, h2, h3⟩, h4, _⟩ := ht;show Wh s _ (if (s.on 1).m.contains (o, (tkA ts s.k).2.1) = true then _ else _)
   split
   · trivial
   · rename_i hc
     refine ⟨⟨h1, h2.len, fun e => h2.name (by omega), fun e => h2.tag (by omega), fun hm => hc (List.contains_iff_mem.2 hm), ta9 ..⟩, h4, fun x hx => ta8 _ hx⟩
 · rw [if_neg he]; trivial
def WhT (ts : List Tk) (P : St → R3 Nat) : Prop := ∀ (s : St) (p q : List Nat), Inv ts.length s p q → Wh s (fun i s' => Inv ts.length s' (i :: p) q) (P s)
def WhY (ts : List Tk) (P : St → R3 Nat) : Prop := ∀ (s : St) (p q : List Nat), Inv ts.length s p q → Wh s (fun i s' => Inv ts.length s' p (i :: q)) (P s)
def Ns (o : Nat) (c : List UInt8 → Bool) (ns : List (List UInt8)) (s : St) : Prop := (∀ x ∈ ns, c x = true ∧ x.length ≤ 1000 ∧ (o, x) ∈ s.m) ∧ ns.Nodup ∧ ns.length ≤ s.k
theorem Ns.on {o : Nat} {c : List UInt8 → Bool} {ns : List (List UInt8)} {s s' : St} (h : Ns o c ns s) (hk : s.k ≤ s'.k) (hm : ∀ x ∈ s.m, x ∈ s'.m) : Ns o c ns s' := ⟨fun x hx => ⟨(h.1 x hx).1, (h.1 x hx).2.1, hm _ (h.1 x hx).2.2⟩, h.2.1, zK4 h.2.2 hk⟩
theorem Ns.add {o : Nat} {c : List UInt8 → Bool} {ns : List (List UInt8)} {s s' : St} {x : List UInt8} (h : Ns o c ns s) (hk : s.k + 1 ≤ s'.k) (hm : ∀ x ∈ s.m, x ∈ s'.m) (hx : c x = true) (hl : x.length ≤ 1000) (hn : (o, x) ∉ s.m) (hy : (o, x) ∈ s'.m) : Ns o c (ns ++ [x]) s' := by
 refine ⟨fun y hy' => ?_, ?_, by have := h.2.2; simp only [zK5, zK2, zKc]; omega⟩
 · rcases List.mem_append.1 hy' with hy' | hy'
   · exact ⟨(h.1 y hy').1, (h.1 y hy').2.1, hm _ (h.1 y hy').2.2⟩
   · simp only [zK7] at hy'; subst hy'; exact ⟨hx, hl, hy⟩
 · rw [List.nodup_append]
   refine ⟨h.2.1, by simp, fun a ha b hb e => ?_⟩;simp only [zK7] at hb;subst hb; subst e;exact hn (h.1 _ ha).2.2
theorem Ns.once {o : Nat} {c : List UInt8 → Bool} {ns : List (List UInt8)} {s : St} (h : Ns o c ns s) : onceB c (bss ns) = true := by
 unfold onceB;rw [zKq];refine ⟨fun x hx => ?_, zpd h.2.1⟩;obtain ⟨y, hy, rfl⟩ := List.mem_map.1 hx;rw [tl_bs];exact (h.1 y hy).1
theorem Ns.few {o : Nat} {c : List UInt8 → Bool} {ns : List (List UInt8)} {s : St} (h : Ns o c ns s) : ∀ x ∈ bss ns, x.size ≤ 1000 := fun x hx => by
 obtain ⟨y, hy, rfl⟩ := List.mem_map.1 hx;rw [zbh];exact (h.1 y hy).2.1
theorem zdj (l : List (List UInt8)) : (bss l).length = l.length := zKd _
theorem zg0 (ks : List Int) (i : Nat) : nats (ks ++ [(i : Int)]) = nats ks ++ [i] := by simp [nats]
structure Side (n : Nat) (J : List Nat → St → Prop) : Prop where
 hk : ∀ {l s}, J l s → s.k < n
 still : ∀ {l s s'}, J l s → Still n s s' → J l s'
 re : ∀ {l l' s}, J l s → (∀ a, l'.count a = l.count a) → J l' s
theorem zIl (n : Nat) (p q : List Nat) : Side n (fun l s => Inv n s (l ++ p) q) := ⟨fun h => h.hk, fun h k => h.still k, fun h k => h.re (fun a => by rw [zKk, zKk, k]) (fun _ => rfl)⟩
theorem zIf (n : Nat) (p q : List Nat) : Side n (fun l s => Inv n s p (l ++ q)) := ⟨fun h => h.hk, fun h k => h.still k, fun h k => h.re (fun _ => rfl) (fun a => by rw [zKk, zKk, k])⟩
theorem zwe (hG : Good ts) {P : St → R3 Nat} {J : List Nat → St → Prop} (hJ : Side ts.length J) (hP : ∀ s l, J l s → Wh s (fun i s' => J (i :: l) s') (P s)) (o : Nat) (sign : List UInt8) : ∀ (f : Nat) (ns : List (List UInt8)) (ks : List Int) (s : St), J (nats ks) s → (∀ k ∈ ks, 0 ≤ k) → Ns o zac ns s → ns.length = ks.length →
 Wh s (fun r s' => J (nats r.2) s' ∧ (∀ k ∈ r.2, 0 ≤ k) ∧ Ns o zac r.1 s' ∧ r.1.length = r.2.length) (zbc ts P o sign f ns ks s) := by
 intro f
 induction f with
 | zero => intro ns ks s _ _ _ _; trivial
 | succ f ih =>
  intro ns ks s h0 h1 h2 h3;unfold zbc;refine (zqm hG (by decide) (hJ.hk h0)).bind (fun x s1 _ a1 b1 c1 => ?_);obtain ⟨a1, a2, a3, _, a5, a6⟩ := a1;have j1 := hJ.still h0 a1;have n1 : Ns o zac (ns ++ [x]) s1 := h2.add a1.2.2.2.1 c1 (a3 rfl) a2 a5 a6;refine (zbt hG (hJ.hk j1)).bind (fun _ s2 _ a2 b2 c2 => ?_);have j2 := hJ.still j1 a2;have n2 := n1.on b2 c2;refine (hP s2 _ j2).bind (fun i s3 _ j3 b3 c3 => ?_);have n3 := n2.on b3 c3;have j3' : J (nats (ks ++ [(i : Int)])) s3 := hJ.re j3 (fun a => by rw [zg0]; simp only [zKk, taa, tad]; omega)
  have h1' : ∀ k ∈ ks ++ [(i : Int)], 0 ≤ k := fun k hk => by
   rcases List.mem_append.1 hk with hk | hk
   · exact h1 k hk
   · simp only [zK7] at hk; omega
  have h3' : (ns ++ [x]).length = (ks ++ [(i : Int)]).length := by simp [h3]
  split
  · rename_i h
    have hs : Still ts.length s3 (s3.on 1) := ⟨rfl, rfl, rfl, zJw _, hG.ok.step (hJ.hk j3) (za0 h)⟩;exact ⟨⟨hJ.still j3' hs, h1', n3.on (ta2 _) (fun _ h => h), h3'⟩, ta2 _, fun _ h => h⟩
  · exact (zbt hG (hJ.hk j3)).bind (fun _ s4 _ a4 b4 c4 => ih _ _ s4 (hJ.still j3' a4) h1' (n3.on b4 c4) h3')
theorem zoy (hG : Good ts) {P : St → R3 Nat} {J : List Nat → St → Prop} (hJ : Side ts.length J) (hP : ∀ s l, J l s → Wh s (fun i s' => J (i :: l) s') (P s)) (o : Nat) (sign : List UInt8) (h : J [] s) :
 Wh s (fun r s' => J (nats r.2) s' ∧ (∀ k ∈ r.2, 0 ≤ k) ∧ Ns o zac r.1 s' ∧ r.1.length = r.2.length) (zan ts P o sign s) := by
 have h2 : Ns o zac [] s := ⟨fun x hx => (by cases hx), List.nodup_nil, zK8 _⟩;unfold zan;split
 · rename_i he
   have hs : Still ts.length s (s.on 1) := ⟨rfl, rfl, rfl, zJw _, hG.ok.step (hJ.hk h) (za0 he)⟩;exact ⟨⟨hJ.still h hs, fun x hx => (by cases hx), ⟨h2.1, h2.2.1, zK8 _⟩, rfl⟩, ta2 _, fun _ h => h⟩
 · exact zwe hG hJ hP o sign _ [] [] s h (fun x hx => (by cases hx)) h2 rfl
theorem zb4 (hG : Good ts) (hk : s.k < ts.length) (h0 : (tkA ts s.k).1 ≠ 0) : Still ts.length s (s.on 1) := ⟨rfl, rfl, rfl, zJw _, hG.ok.step hk h0⟩
theorem Wh.on {α : Type} {post : α → St → Prop} {R : R3 α} (h : Wh (s.on 1) post R) : Wh s post R := h.moved (ta2 _) rfl
theorem zw7 {t : Tk} (hg : TkGood t) {x : TypD} (h : zc0 t = some x) : x.kids = [] ∧ typB x = true ∧ zfg x := by
 have hl := hg.len;unfold zc0 at h;split at h
 · rename_i h2
   injection h with h; subst h
   refine ⟨rfl, ?_, by simp [zfg, zbh]; omega⟩;simp [typB, za6, tl_bs, hg.ali h2]
 split at h
 · rename_i h2
   injection h with h; subst h
   have : wordsY.findIdx (fun x => x == t.2.1) < 7 := List.findIdx_lt_length_of_exists (by simpa [List.any_eq_true] using h2.2);refine ⟨rfl, ?_, by simp [zfg, zbh]⟩;unfold typB;rw [if_pos ⟨by dsimp only; omega, by dsimp only; omega⟩];simp [za6, zde]
 · cases h
theorem zm6 (hG : Good ts) {T : St → R3 Nat} (hT : WhY ts T) : WhY ts (zay ts T) := by
 intro s p q h;unfold zay;split
 · rename_i he
   have a0 := zb4 hG h.hk (za0 he);exact (((hT (s.on 1) p q (h.still a0)).bind (fun i s1 _ j1 b1 c1 => (zbt hG j1.hk).bind (fun _ s2 _ a2 b2 c2 => Wh.ok_ (j1.still a2))))).on
 split
 · rename_i he
   have a0 := zb4 hG h.hk (za0 he);refine ((zoy hG (zIf ts.length p q) (fun s l hj => hT s p (l ++ q) hj) (posA ts s) [58] (s := s.on 1) (h.still a0)).bind (fun r s1 _ j1 b1 c1 => ?_)).on;obtain ⟨j1, h1, hn, hl⟩ := j1;have h5 : r.1.length ≤ 1000 := zK4 hn.2.2 (by have := j1.hk; have := hG.few; omega);refine zk6 j1 h1 ?_ ⟨by simp [zbh], by rw [zdj]; exact h5, hn.few, by dsimp only; omega⟩;simp [typB, za6, zde, hn.once, zdj, hl]
 split
 · rename_i x hx
   have hg := zw7 (hG.tk _ h.hk) hx;have a0 := zb4 hG h.hk (zf8 hx);exact (zk6 (s := s.on 1) (by rw [hg.1]; exact h.still a0) (by rw [hg.1]; intro k hk; cases hk) hg.2.1 hg.2.2).on
 · trivial
end
section
variable {ts : List Tk} {s : St} {p q : List Nat}
def Vo (d : Nat) (y : Vr) (s : St) : Prop := Ns y.1 tagB y.2.1 s ∧ y.2.1.length = y.2.2.length + d ∧ ∀ k ∈ y.2.2, 0 ≤ k
theorem Vo.on {d : Nat} {y : Vr} {s s' : St} (h : Vo d y s) (hk : s.k ≤ s'.k) (hm : ∀ x ∈ s.m, x ∈ s'.m) : Vo d y s' := ⟨h.1.on hk hm, h.2⟩
theorem zFp (hG : Good ts) {y : Vr} (h : Inv ts.length s p q) (hv : Vo 0 y s) : Wh s (fun r s' => Inv ts.length s' p q ∧ r.1.2.2 = y.2.2 ∧ (∀ o, r.2 = some o → Vo 0 r.1 s') ∧ (r.2 = none → Vo 1 r.1 s')) (itemM ts y s) := by
 unfold itemM;split
 · rename_i he
   have a0 := zb4 hG h.hk (za0 he);exact ⟨⟨h.still a0, rfl, fun _ _ => hv.on (ta2 _) (fun _ h => h), fun e => (by cases e)⟩, ta2 _, fun _ h => h⟩
 refine Wh.bind (post1 := fun _ s' => Inv ts.length s' p q ∧ Vo 0 y s') ?_ (fun _ s1 _ j1 b1 c1 => ?_)
 · split
   · exact Wh.ok_ ⟨h, hv⟩
   · exact (zbt hG h.hk).imp (fun _ s1 _ a b c => ⟨h.still a, hv.on b c⟩)
 obtain ⟨j1, v1⟩ := j1;split
 · rename_i he
   have a0 := zb4 hG j1.hk (za0 he);refine Wh.on ((zbt hG a0.2.2.2.2).bind (fun _ s2 _ a2 b2 c2 => Wh.ok_ ⟨(j1.still a0).still a2, rfl, fun _ _ => v1.on (zK4 (ta2 _) b2) c2, fun e => (by cases e)⟩))
 · refine (zqm hG (by decide) j1.hk).bind (fun x s2 _ a2 b2 c2 => Wh.ok_ ?_)
   obtain ⟨a1, a2, _, a4, a5, a6⟩ := a2;refine ⟨j1.still a1, rfl, fun _ e => (by cases e), fun _ => ⟨v1.1.add a1.2.2.2.1 c2 (a4 rfl) a2 a5 a6, ?_, v1.2.2⟩⟩;have := v1.2.1;simp only [zK5, zK2, zKc];omega
theorem zsm (hG : Good ts) {y : Vr} (h : s.k < ts.length) (hv : Vo 0 y s) (o : Bool) : typB (vrD y o) = true ∧ zfg (vrD y o) := by
 have h5 : y.2.1.length ≤ 1000 := zK4 hv.1.2.2 (by have := hG.few; omega);have hl := hv.2.1;refine ⟨?_, by simp [zbh], by rw [zdj]; exact h5, hv.1.few, by dsimp only; omega⟩;simp [typB, za6, zde, hv.1.once, zdj, hl]
def vqs (r : List Vr) (q : List Nat) : List Nat := r.flatMap (fun z => nats z.2.2) ++ q
theorem zsf (hG : Good ts) {T : St → R3 Nat} (hT : WhY ts T) : ∀ (f : Nat) (x : Vr) (r : List Vr) (s : St), Inv ts.length s p (vqs (x :: r) q) → Vo 0 x s → (∀ z ∈ r, Vo 1 z s) → Wh s (fun i s' => Inv ts.length s' p (i :: q)) (zaq ts T f x r s) := by
 intro f
 induction f with
 | zero => intro x r s _ _ _; trivial
 | succ f ih =>
  intro x r s h hv hr;unfold zaq;refine (zFp hG h hv).bind (fun y s1 _ j1 b1 c1 => ?_);obtain ⟨y, oo⟩ := y;obtain ⟨j1, e1, h1, h2⟩ := j1;dsimp only at e1 h1 h2;have hr1 : ∀ z ∈ r, Vo 1 z s1 := fun z hz => (hr z hz).on b1 c1
  cases oo with
  | some o =>
   dsimp only;have hy := h1 o rfl;have ht := zsm hG j1.hk hy o;have j1' : Inv ts.length s1 p (nats (vrD y o).kids ++ vqs r q) := j1.re (fun _ => rfl) (fun a => by simp [vqs, e1]);refine (zk6 j1' hy.2.2 ht.1 ht.2).bind (fun i s2 _ j2 b2 c2 => ?_)
   cases r with
   | nil => exact Wh.ok_ (j2.re (fun _ => rfl) (fun a => by simp [vqs]))
   | cons z r =>
    refine ih _ r s2 (j2.re (fun _ => rfl) (fun a => by simp only [vqs, tah, zKk, taa, zg0, tad]; omega)) ?_ (fun z' hz => (hr1 z' (ta8 _ hz)).on b2 c2);have hz := (hr1 z (ta9 ..)).on b2 c2;refine ⟨hz.1, ?_, fun k hk => ?_⟩
    · have := hz.2.1
      simp only [zK5, zK2, zKc];omega
    · rcases List.mem_append.1 hk with hk | hk
      · exact hz.2.2 k hk
      · simp only [zK7] at hk; omega
  | none =>
   dsimp only;have hy := h2 rfl;split
   · rename_i he
     have a0 := zb4 hG j1.hk (za0 he);refine Wh.on (ih (posA ts s1, [], []) (y :: r) (s1.on 1) ((j1.still a0).re (fun _ => rfl) (fun a => by simp [vqs, nats, e1])) ⟨⟨fun _ hx => (by cases hx), List.nodup_nil, zK8 _⟩, rfl, fun _ hx => (by cases hx)⟩ (fun z hz => ?_));rcases List.mem_cons.1 hz with rfl | hz
     · exact hy.on (ta2 _) (fun _ h => h)
     · exact (hr1 z hz).on (ta2 _) (fun _ h => h)
   · refine (zm6 hG hT s1 _ _ j1).bind (fun i s2 _ j2 b2 c2 => ?_)
     refine ih (y.1, y.2.1, y.2.2 ++ [(i : Int)]) r s2 (j2.re (fun _ => rfl) (fun a => by simp only [vqs, tah, zKk, taa, zg0, tad, e1]; omega)) ?_ (fun z hz => (hr1 z hz).on b2 c2);have hz := hy.on b2 c2;refine ⟨hz.1, ?_, fun k hk => ?_⟩
     · have := hz.2.1
       simp only [zK5, zK2, zKc];omega
     · rcases List.mem_append.1 hk with hk | hk
       · exact hz.2.2 k hk
       · simp only [zK7] at hk; omega
theorem zya (hG : Good ts) {T : St → R3 Nat} (hT : WhY ts T) : WhY ts (zak ts T) := by
 intro s p q h;unfold zak;split
 · rename_i he
   unfold zbp;have a0 := zb4 hG h.hk (za0 he);exact Wh.on (zsf hG hT _ _ [] (s.on 1) ((h.still a0).re (fun _ => rfl) (fun a => by simp [vqs, nats])) ⟨⟨fun _ hx => (by cases hx), List.nodup_nil, zK8 _⟩, rfl, fun _ hx => (by cases hx)⟩ (fun _ hx => (by cases hx)))
 · exact zm6 hG hT s p q h
theorem Inv.op {n : Nat} {s s' : St} {p q : List Nat} (h : Inv n s p q) (hk : s'.k = s.k) (h1 : s'.t1 = s.t1) (h2 : s'.t2 = s.t2) (h3 : s'.t3 = s.t3) : Inv n s' p q := h.go (by rw [hk]; exact h.hk) (by omega) h1 h2 h3
theorem zur (hG : Good ts) : ∀ (f : Nat), WhY ts (typeM ts f) := by
 intro f
 induction f with
 | zero => intro s p q _; trivial
 | succ f ih =>
  intro s p q h;unfold typeM;split
  · trivial
  refine Wh.moved (s1 := s.up) ((zya hG ih s.up p q (h.op rfl rfl rfl rfl)).bind (fun i s1 _ j1 b1 c1 => ?_)) (zJw _) rfl;split
  · rename_i he
    have a0 := zb4 hG j1.hk (za0 he);refine Wh.on ((ih (s1.on 1) p (i :: q) (j1.still a0)).bind (fun j s2 _ j2 b2 c2 => ?_));refine Wh.bind (post1 := fun i s' => Inv ts.length s' p (i :: q)) (zk6 (j2.re (fun _ => rfl) (fun a => by simp only [nats, tae, tak, tam, zKk, taa, tad]; omega)) (by intro k hk; simp only [zKf, zKn, or_false] at hk; omega) (by simp [typB, za6, zde]) (by simp [zfg, zbh])) (fun l s3 _ j3 b3 c3 => ⟨j3.op rfl rfl rfl rfl, zJw _, fun _ h => h⟩)
  · exact ⟨j1.op rfl rfl rfl rfl, zJw _, fun _ h => h⟩
end
theorem zAd (x : Nat) : norm (norm x) = norm x := by
 unfold norm;by_cases h : isN x = true
 · rw [if_pos h, if_pos (show isN noneB = true by decide)]
 · rw [if_neg h, if_neg h]
section
variable {ts : List Tk} {s : St} {p q : List Nat}
theorem zvk (t : List UInt8) : zgs (match zdd (bs t) with | some n => norm n | none => 0) = true := by
 unfold zgs;rw [zKq]
 cases zdd (bs t) with
 | none => decide
 | some n => exact zAd n
theorem zA2 {t : Tk} (hg : TkGood t) {x : TermD} (h : leafM t = some x) : x.kids = [] ∧ x.types = [] ∧ termB x = true ∧ zbb x := by
 have hl := hg.len;unfold leafM at h;split at h
 · rename_i h1
   injection h with h; subst h
   exact ⟨rfl, rfl, by simp [termB, za6, tl_bs, hg.name h1], by simp [zbb, zbh]; omega⟩
 split at h
 · rename_i h1
   injection h with h; subst h
   exact ⟨rfl, rfl, by simp [termB, za6, hg.str h1], by simp [zbb, zbh]; omega⟩
 split at h
 · rename_i h1
   injection h with h; subst h
   obtain ⟨v, e, hv⟩ := hg.int h1;rw [e];exact ⟨rfl, rfl, by simp [termB, za6, zde, hv], by simp [zbb, zbh]⟩
 split at h
 · rename_i h1
   injection h with h; subst h
   have hf := zvk t.2.1;exact ⟨rfl, rfl, by simp [termB, za6, zde]; exact hf, by simp [zbb, zbh]⟩
 split at h
 · injection h with h; subst h
   exact ⟨rfl, rfl, by simp [termB, za6, zde], by simp [zbb, zbh]⟩
 split at h
 · injection h with h; subst h
   exact ⟨rfl, rfl, by simp [termB, za6, zde], by simp [zbb, zbh]⟩
 · cases h
variable {E T P : St → R3 Nat}
theorem ze2 {x : TermD} {p1 q1 : List Nat} (h : Inv ts.length s p1 q1) (hp : ∀ a, (nats x.kids ++ p).count a = p1.count a) (hq : ∀ a, (nats x.types ++ q).count a = q1.count a) (h0 : ∀ k ∈ x.kids, 0 ≤ k) (h1 : ∀ k ∈ x.types, 0 ≤ k) (hB : termB x = true) (hF : zbb x) : Wh s (fun i s' => Inv ts.length s' (i :: p) q) (newT s x) := zGc (h.re hp hq) h0 h1 hB hF
theorem zv3 (hG : Good ts) (hE : WhT ts E) (hY : WhY ts T) (h : Inv ts.length s p q) (h0 : (tkA ts s.k).1 ≠ 0) : Wh s (fun i s' => Inv ts.length s' (i :: p) q) (zas ts E T s) := by
 unfold zas;have a0 := zb4 hG h.hk h0;refine Wh.on ((hE (s.on 1) p q (h.still a0)).bind (fun i s1 _ j1 b1 c1 => ?_));split
 · rename_i he
   exact ⟨j1.still (zb4 hG j1.hk (za0 he)), ta2 _, fun _ h => h⟩
 refine (zbt hG j1.hk).bind (fun _ s2 _ a2 b2 c2 => (hY s2 _ _ (j1.still a2)).bind (fun j s3 _ j3 b3 c3 => ?_));split
 · rename_i he
   refine Wh.on ((hY (s3.on 1) _ _ (j3.still (zb4 hG j3.hk (za0 he)))).bind (fun l s4 _ j4 b4 c4 => (zbt hG j4.hk).bind (fun _ s5 _ a5 b5 c5 => ze2 (j4.still a5) (fun a => by simp [nats]) (fun a => ?_) (by simp) (by simp) (by simp [termB, za6, zde]) (by simp [zbb, zbh]))));simp only [nats, tae, tak, tam, zKk, taa, tad];omega
 · exact (zbt hG j3.hk).bind (fun _ s5 _ a5 b5 c5 => ze2 (j3.still a5) (fun a => by simp [nats]) (fun a => by simp [nats]) (by simp) (by simp) (by simp [termB, za6, zde]) (by simp [zbb, zbh]))
theorem zy1 (hG : Good ts) (hE : WhT ts E) (h : Inv ts.length s p q) (h0 : (tkA ts s.k).1 ≠ 0) : Wh s (fun i s' => Inv ts.length s' (i :: p) q) (zbu ts E s) := by
 unfold zbu;have a0 := zb4 hG h.hk h0;refine Wh.on ((zoy hG (zIl ts.length p q) (fun s l hj => hE s (l ++ p) q hj) (posA ts s) [61] (s := s.on 1) (h.still a0)).bind (fun r s1 _ j1 b1 c1 => ?_));obtain ⟨j1, h1, hn, hl⟩ := j1;have h5 : r.1.length ≤ 1000 := zK4 hn.2.2 (by have := j1.hk; have := hG.few; omega);refine ze2 j1 (fun a => rfl) (fun a => by simp [nats]) h1 (by simp) ?_ ⟨by simp [zbh], by rw [zdj]; exact h5, hn.few, by dsimp only; omega, by simp⟩;simp [termB, za6, zde, hn.once, zdj, hl]
theorem zG8 (hG : Good ts) (hE : WhT ts E) (hY : WhY ts T) : WhT ts (atomM ts E T) := by
 intro s p q h;unfold atomM;split
 · rename_i he; exact zv3 hG hE hY h (za0 he)
 split
 · rename_i he; exact zy1 hG hE h (za0 he)
 split
 · rename_i x hx
   have hg := zA2 (hG.tk _ h.hk) hx;have a0 := zb4 hG h.hk (zfm hx);exact Wh.on (ze2 (s := s.on 1) (h.still a0) (fun a => by rw [hg.1]; rfl) (fun a => by rw [hg.2.1]; rfl) (by rw [hg.1]; intro k hk; cases hk) (by rw [hg.2.1]; intro k hk; cases hk) hg.2.2.1 hg.2.2.2)
 · trivial
theorem zDw (hG : Good ts) : ∀ (f left : Nat) (s : St), Inv ts.length s (left :: p) q → Wh s (fun i s' => Inv ts.length s' (i :: p) q) (postL ts f left s) := by
 intro f
 induction f with
 | zero => intro left s _; trivial
 | succ f ih =>
  intro left s h;unfold postL;split
  · rename_i he
    have a0 := zb4 hG h.hk (za0 he);refine Wh.on ((zfi hG (by decide) a0.2.2.2.2).bind (fun t s1 _ a1 b1 c1 => ?_));obtain ⟨a1, g1, e1⟩ := a1;have hl := g1.len;exact (ze2 ((h.still a0).still a1) (fun a => by simp [nats]) (fun a => by simp [nats]) (by simp) (by simp) (by simp [termB, za6, tl_bs, g1.name e1]) (by simp [zbb, zbh]; omega)).bind (fun i s2 _ j2 b2 c2 => ih i s2 j2)
  · exact Wh.ok_ h
theorem ztq (hG : Good ts) (hE : WhT ts E) (hY : WhY ts T) : WhT ts (postM ts E T) := fun s p q h => (zG8 hG hE hY s p q h).bind (fun i s1 _ j1 _ _ => zDw hG _ i s1 j1)
theorem ztx (hG : Good ts) (hE : WhT ts E) (hY : WhY ts T) : WhT ts (unitM ts E T) := by
 intro s p q h;unfold unitM;split
 · rename_i he
   have a0 := zb4 hG h.hk (by omega);have g := hG.tk _ h.hk;have hl := g.len;exact Wh.on ((ztq hG hE hY (s.on 1) p q (h.still a0)).bind (fun i s1 _ j1 b1 c1 => ze2 j1 (fun a => by simp [nats]) (fun a => by simp [nats]) (by simp) (by simp) (by simp [termB, za6, tl_bs, g.tag he]) (by simp [zbb, zbh]; omega)))
 · exact ztq hG hE hY s p q h
theorem zy7 (hG : Good ts) (hE : WhT ts E) (hY : WhY ts T) : ∀ (f left : Nat) (s : St), Inv ts.length s (left :: p) q → Wh s (fun i s' => Inv ts.length s' (i :: p) q) (zat ts E T f left s) := by
 intro f
 induction f with
 | zero => intro left s _; trivial
 | succ f ih =>
  intro left s h;unfold zat;split
  · refine (ztx hG hE hY s _ q h).bind (fun i s1 _ j1 b1 c1 => (ze2 j1 (fun a => ?_) (fun a => by simp [nats]) (by simp) (by simp) (by simp [termB, za6, zde]) (by simp [zbb, zbh])).bind (fun j s2 _ j2 b2 c2 => ih j s2 j2))
    simp only [nats, tae, tak, tam, zKk, taa, tad];omega
  · exact Wh.ok_ h
theorem zBs (hG : Good ts) (hE : WhT ts E) (hY : WhY ts T) : WhT ts (zb0 ts E T) := fun s p q h => (ztx hG hE hY s p q h).bind (fun i s1 _ j1 _ _ => zy7 hG hE hY _ i s1 j1)
theorem zvd {t : Tk} {l : List (List UInt8)} (h : za2 t l = true) : t.2.1 ∈ l := by
 unfold za2 at h;simp only [zK6, List.any_eq_true, beq_iff_eq] at h;obtain ⟨_, x, hx, e⟩ := h;rw [← e]; exact hx
theorem op_wh (hG : Good ts) (hP : WhT ts P) (left : Nat) (h : Inv ts.length s (left :: p) q) {sg : List (List UInt8)} (hs : isA ts s sg = true) (ho : ∀ x ∈ sg, opB x = true) : Wh s (fun i s' => Inv ts.length s' (i :: p) q) (opM ts P left s) := by
 unfold opM;have a0 := zb4 hG h.hk (za0 hs);have g := hG.tk _ h.hk;have hl := g.len;have hop : opB (tkA ts s.k).2.1 = true := ho _ (zvd hs);refine Wh.on ((hP (s.on 1) _ q (h.still a0)).bind (fun i s1 _ j1 b1 c1 => ze2 j1 (fun a => ?_) (fun a => by simp [nats]) (by simp) (by simp) (by simp [termB, za6, tl_bs, hop]) (by simp [zbb, zbh]; omega)));simp only [nats, tae, tak, tam, zKk, taa, tad];omega
theorem zHm (hG : Good ts) (hP : WhT ts P) {sg : List (List UInt8)} (ho : ∀ x ∈ sg, opB x = true) : ∀ (f left : Nat) (s : St), Inv ts.length s (left :: p) q → Wh s (fun i s' => Inv ts.length s' (i :: p) q) (rowL ts P sg f left s) := by
 intro f
 induction f with
 | zero => intro left s _; trivial
 | succ f ih =>
  intro left s h;unfold rowL;split
  · rename_i he
    exact (op_wh hG hP left h he ho).bind (fun i s1 _ j1 _ _ => ih i s1 j1)
  · exact Wh.ok_ h
theorem zru (hG : Good ts) (hP : WhT ts P) {sg : List (List UInt8)} (ho : ∀ x ∈ sg, opB x = true) : WhT ts (rowM ts P sg) := fun s p q h => (hP s p q h).bind (fun i s1 _ j1 _ _ => zHm hG hP ho _ i s1 j1)
theorem zth (hG : Good ts) (hE : WhT ts E) (hY : WhY ts T) : WhT ts (joinM ts E T) := zru hG (zru hG (zru hG (zBs hG hE hY) (by decide)) (by decide)) (by decide)
theorem zvy (hG : Good ts) (hE : WhT ts E) (hY : WhY ts T) : WhT ts (zad ts E T) := by
 intro s p q h;unfold zad;refine (zth hG hE hY s p q h).bind (fun i s1 _ j1 _ _ => ?_);split
 · rename_i he
   exact op_wh hG (zth hG hE hY) i j1 he (by decide)
 · exact Wh.ok_ j1
theorem zIi (hG : Good ts) (hE : WhT ts E) (h : Inv ts.length s p q) (h0 : (tkA ts s.k).1 ≠ 0) : Wh s (fun i s' => Inv ts.length s' (i :: p) q) (funM ts E s) := by
 unfold funM;have a0 := zb4 hG h.hk h0;refine Wh.on ((zfi hG (by decide) a0.2.2.2.2).bind (fun t s1 _ a1 b1 c1 => ?_));obtain ⟨a1, g1, e1⟩ := a1;have hl := g1.len;have j1 := (h.still a0).still a1;exact (zbt hG j1.hk).bind (fun _ s2 _ a2 b2 c2 => (hE s2 p q (j1.still a2)).bind (fun i s3 _ j3 b3 c3 => ze2 j3 (fun a => by simp [nats]) (fun a => by simp [nats]) (by simp) (by simp) (by simp [termB, za6, tl_bs, g1.name e1]) (by simp [zbb, zbh]; omega)))
theorem zI5 (hG : Good ts) (hE : WhT ts E) (h : Inv ts.length s p q) (h0 : (tkA ts s.k).1 ≠ 0) : Wh s (fun i s' => Inv ts.length s' (i :: p) q) (letM ts E s) := by
 unfold letM;dsimp only;have a0 := zb4 hG h.hk h0
 obtain ⟨s0, h1, h2, h3⟩ : ∃ s0 : St, (if isA ts (s.on 1) [[114, 101, 99]] = true then s.on 2 else s.on 1) = s0 ∧ Still ts.length s s0 ∧ s0.m = s.m := by
  split
  · rename_i he
    exact ⟨_, rfl, ⟨rfl, rfl, rfl, ta2 _, hG.ok.step a0.2.2.2.2 (za0 he)⟩, rfl⟩
  · exact ⟨_, rfl, a0, rfl⟩
 rw [h1];refine Wh.moved (s1 := s0) ((zfi hG (by decide) h2.2.2.2.2).bind (fun t s1 _ a1 b1 c1 => ?_)) (by have := h2.2.2.2.1; omega) h3;obtain ⟨a1, g1, e1⟩ := a1;have hl := g1.len;have j1 := (h.still h2).still a1;refine (zbt hG j1.hk).bind (fun _ s2 _ a2 b2 c2 => (hE s2 p q (j1.still a2)).bind (fun i s3 _ j3 b3 c3 => (zbt hG j3.hk).bind (fun _ s4 _ a4 b4 c4 => (hE s4 _ q (j3.still a4)).bind (fun j s5 _ j5 b5 c5 => ze2 j5 (fun a => ?_) (fun a => by simp [nats]) (by simp) (by simp) ?_ (by simp [zbb, zbh]; omega)))))
 · simp only [nats, tae, tak, tam, zKk, taa, tad]
   omega
 · split <;> simp [termB, za6, tl_bs, g1.name e1]
theorem zyh (hG : Good ts) (hE : WhT ts E) (h : Inv ts.length s p q) (h0 : (tkA ts s.k).1 ≠ 0) : Wh s (fun i s' => Inv ts.length s' (i :: p) q) (zby ts E s) := by
 unfold zby
 have a0 := zb4 hG h.hk h0;refine Wh.on ((hE (s.on 1) p q (h.still a0)).bind (fun i s1 _ j1 b1 c1 => (zbt hG j1.hk).bind (fun _ s2 _ a2 b2 c2 => (hE s2 _ q (j1.still a2)).bind (fun j s3 _ j3 b3 c3 => (zbt hG j3.hk).bind (fun _ s4 _ a4 b4 c4 => (hE s4 _ q (j3.still a4)).bind (fun l s5 _ j5 b5 c5 => ze2 j5 (fun a => ?_) (fun a => by simp [nats]) (by simp) (by simp) (by simp [termB, za6, zde]) (by simp [zbb, zbh])))))));simp only [nats, tae, tak, tam, zKk, taa, tad];omega
def flatA (ps : List (List UInt8 × List UInt8)) : List (List UInt8) := ps.flatMap (fun z => [z.1, z.2])
theorem zyb (ps : List (List UInt8 × List UInt8)) (z : List UInt8 × List UInt8) : flatA (ps ++ [z]) = flatA ps ++ [z.1, z.2] := by simp [flatA]
theorem zj9 : ∀ ps, (flatA ps).length = 2 * ps.length
 | [] => rfl
 | z :: ps => by
  have := zj9 ps;simp only [flatA, tah, zK5, zK2, zKc] at this ⊢;omega
theorem zkg : ∀ ps, evens (bss (flatA ps)) = bss (ps.map (·.1))
 | [] => rfl
 | z :: ps => by
  have := zkg ps;show bs z.1 :: evens (bss (flatA ps)) = _
  rw [this]; rfl
theorem zmc : ∀ ps, odds (bss (flatA ps)) = bss (ps.map (·.2))
 | [] => rfl
 | z :: ps => by
  have := zmc ps;show bs z.2 :: odds (bss (flatA ps)) = _
  rw [this]; rfl
def Am (o : Nat) (ps : List (List UInt8 × List UInt8)) (s : St) : Prop := (∀ z ∈ ps, tagB z.1 = true ∧ z.1.length ≤ 1000 ∧ zac z.2 = true ∧ z.2.length ≤ 1000 ∧ (o, z.1) ∈ s.m) ∧ (ps.map (·.1)).Nodup ∧ 2 * ps.length ≤ s.k
theorem Am.on {o : Nat} {ps : List (List UInt8 × List UInt8)} {s s' : St} (h : Am o ps s) (hk : s.k ≤ s'.k) (hm : ∀ x ∈ s.m, x ∈ s'.m) : Am o ps s' := ⟨fun x hx => by have := h.1 x hx; exact ⟨this.1, this.2.1, this.2.2.1, this.2.2.2.1, hm _ this.2.2.2.2⟩, h.2.1, zK4 h.2.2 hk⟩
theorem Am.arms {o : Nat} {ps : List (List UInt8 × List UInt8)} {s : St} (h : Am o ps s) : armsB (bss (flatA ps)) = true := by
 unfold armsB;rw [zkg, zmc];simp only [zK6, zKq];refine ⟨by rw [zdj, zj9]; omega, fun x hx => ?_, ?_⟩
 · obtain ⟨y, hy, rfl⟩ := List.mem_map.1 hx
   obtain ⟨z, hz, rfl⟩ := List.mem_map.1 hy;rw [tl_bs]; exact (h.1 z hz).2.2.1
 · unfold onceB
   rw [zKq];refine ⟨fun x hx => ?_, zpd h.2.1⟩;obtain ⟨y, hy, rfl⟩ := List.mem_map.1 hx;obtain ⟨z, hz, rfl⟩ := List.mem_map.1 hy;rw [tl_bs]; exact (h.1 z hz).1
theorem Am.few {o : Nat} {ps : List (List UInt8 × List UInt8)} {s : St} (h : Am o ps s) : ∀ x ∈ bss (flatA ps), x.size ≤ 1000 := fun x hx => by
 obtain ⟨y, hy, rfl⟩ := List.mem_map.1 hx;obtain ⟨z, hz, hy⟩ := List.mem_flatMap.1 hy;rw [zbh];simp only [zKf, zKn, or_false] at hy;rcases hy with rfl | rfl
 · exact (h.1 z hz).2.1
 · exact (h.1 z hz).2.2.2.1
theorem zo4 {ks : List Int} (h : ∀ k ∈ ks, 0 ≤ k) (i : Nat) : ∀ k ∈ ks ++ [(i : Int)], 0 ≤ k := fun k hk => by
 rcases List.mem_append.1 hk with hk | hk
 · exact h k hk
 · simp only [zK7] at hk; omega
theorem zxp (hG : Good ts) (hE : WhT ts E) (o : Nat) : ∀ (f : Nat) (ps : List (List UInt8 × List UInt8)) (ks : List Int) (s : St), Inv ts.length s (nats ks ++ p) q → (∀ k ∈ ks, 0 ≤ k) → Am o ps s → ks.length = ps.length + 1 →
 Wh s (fun r s' => Inv ts.length s' (nats r.2 ++ p) q ∧ (∀ k ∈ r.2, 0 ≤ k) ∧ ∃ ps', r.1 = flatA ps' ∧ Am o ps' s' ∧ ps'.length + 1 ≤ r.2.length ∧ r.2.length ≤ ps'.length + 2) (zbz ts E o f (flatA ps) ks s) := by
 intro f
 induction f with
 | zero => intro ps ks s _ _ _ _; trivial
 | succ f ih =>
  intro ps ks s h h0 hA hl;unfold zbz;split
  · rename_i he
    have a0 := zb4 hG h.hk (za0 he);split
    · rename_i he2
      have a1 : Still ts.length s (s.on 2) := ⟨rfl, rfl, rfl, ta2 _, hG.ok.step a0.2.2.2.2 (za0 he2)⟩;refine Wh.moved (s1 := s.on 2) ((zbt hG a1.2.2.2.2).bind (fun _ s1 _ a2 b2 c2 => (hE s1 _ q ((h.still a1).still a2)).bind (fun i s2 _ j3 b3 c3 => Wh.ok_ ⟨j3.re (fun a => ?_) (fun _ => rfl), zo4 h0 i, ps, rfl, hA.on ?_ ?_, ?_, ?_⟩))) (by show s.k ≤ s.k + 2; omega) rfl
      · rw [zg0]; simp only [zKk, taa, tad]; omega
      · have b2' : s.k + 2 ≤ s1.k := b2
        omega
      · exact fun x hx => c3 x (c2 x hx)
      · simp only [zK5, zK2, zKc]; omega
      · simp only [zK5, zK2, zKc]; omega
    · refine Wh.on ((zqm hG (by decide) a0.2.2.2.2).bind (fun x s1 _ a1 b1 c1 => ?_))
      obtain ⟨a1, x2, _, x4, x5, x6⟩ := a1;have j1 := (h.still a0).still a1;refine (zfi hG (by decide) j1.hk).bind (fun t s2 _ a2 b2 c2 => ?_);obtain ⟨a2, g2, e2⟩ := a2;have j2 := j1.still a2;refine (zbt hG j2.hk).bind (fun _ s3 _ a3 b3 c3 => (hE s3 _ q (j2.still a3)).bind (fun i s4 _ j4 b4 c4 => ?_))
      have hk4 : s.k + 1 + 1 + 1 ≤ s4.k := by
       have h1 : s.k + 1 + 1 ≤ s1.k := a1.2.2.2.1;have h2 := a2.2.2.2.1;omega
      have e : flatA ps ++ [x, t.2.1] = flatA (ps ++ [(x, t.2.1)]) := (zyb ps (x, t.2.1)).symm;rw [e];refine ih _ _ s4 (j4.re (fun a => by rw [zg0]; simp only [zKk, taa, tad]; omega) (fun _ => rfl)) (zo4 h0 i) ⟨fun z hz => ?_, ?_, ?_⟩ (by simp only [zK5, zK2, zKc]; omega)
      · rcases List.mem_append.1 hz with hz | hz
        · have := hA.1 z hz
          exact ⟨this.1, this.2.1, this.2.2.1, this.2.2.2.1, c4 _ (c3 _ (c2 _ (c1 _ this.2.2.2.2)))⟩
        · simp only [zK7] at hz
          subst hz;exact ⟨x4 rfl, x2, g2.name e2, g2.len, c4 _ (c3 _ (c2 _ x6))⟩
      · rw [taz, List.nodup_append]
        refine ⟨hA.2.1, by simp, fun a ha b hb eab => ?_⟩;simp only [tae, tak, zK7] at hb;subst hb; subst eab;obtain ⟨z, hz, hz2⟩ := List.mem_map.1 ha;have := (hA.1 z hz).2.2.2.2;rw [hz2] at this;exact x5 this
      · have := hA.2.2
        simp only [zK5, zK2, zKc];omega
  · exact Wh.ok_ ⟨h, h0, ps, rfl, hA, by dsimp only; omega, by dsimp only; omega⟩
theorem zDv (hG : Good ts) (hE : WhT ts E) (h : Inv ts.length s p q) (h0 : (tkA ts s.k).1 ≠ 0) : Wh s (fun i s' => Inv ts.length s' (i :: p) q) (zci ts E s) := by
 unfold zci;have a0 := zb4 hG h.hk h0;refine Wh.on ((hE (s.on 1) p q (h.still a0)).bind (fun i s1 _ j1 b1 c1 => (zbt hG j1.hk).bind (fun _ s2 _ a2 b2 c2 => ?_)));refine (zxp (p := p) (q := q) hG hE (posA ts s) ts.length [] [(i : Int)] s2 ((j1.still a2).re (fun a => by simp [nats]) (fun _ => rfl)) (by simp) ⟨fun _ hx => (by cases hx), List.nodup_nil, zK8 _⟩ rfl).bind (fun r s3 _ j3 b3 c3 => ?_);obtain ⟨j3, g0, ps, e1, hA, g1, g2⟩ := j3;refine (zbt hG j3.hk).bind (fun _ s4 _ a4 b4 c4 => ?_);have j4 := j3.still a4;have hA4 := hA.on b4 c4;have hlen : (bss r.1).length = 2 * ps.length := by rw [zdj, e1, zj9]
 have h5 : 2 * ps.length ≤ 998 := by
  have h6 := hA.2.2;have h7 := a4.2.2.2.1;have h8 := j4.hk;have h9 := hG.few;omega
 refine ze2 j4 (fun a => rfl) (fun a => by simp [nats]) g0 (by simp) ?_ ⟨by simp [zbh], by dsimp only; omega, by rw [e1]; exact hA.few, by dsimp only; omega, by simp⟩;have hv : (1 + ((bss r.1).length : Int) / 2) = 1 + (ps.length : Int) := by rw [hlen]; omega
 have har : armsB (bss r.1) = true := by rw [e1]; exact hA.arms
 unfold termB;simp only [hv, har];simp [za6, zde]
 omega
theorem zDr (hG : Good ts) (hE : WhT ts E) (hY : WhY ts T) : WhT ts (zba ts E T) := by
 intro s p q h;unfold zba;split
 · rename_i he; exact zIi hG hE h (za0 he)
 split
 · rename_i he; exact zI5 hG hE h (za0 he)
 split
 · rename_i he; exact zyh hG hE h (za0 he)
 split
 · rename_i he; exact zDv hG hE h (za0 he)
 exact zvy hG hE hY s p q h
theorem zFm (hG : Good ts) : ∀ (f : Nat), WhT ts (termM ts f) := by
 intro f
 induction f with
 | zero => intro s p q _; trivial
 | succ f ih =>
  intro s p q h;unfold termM;split
  · trivial
  exact Wh.moved (s1 := s.up) ((zDr hG ih (zur hG f) s.up p q (h.op rfl rfl rfl rfl)).bind (fun i s1 _ j1 b1 c1 => ⟨j1.op rfl rfl rfl rfl, zJw _, fun _ h => h⟩)) (zJw _) rfl
theorem zDl (hG : Good ts) (hY : WhY ts T) : ∀ (f : Nat) (s : St), Inv ts.length s p q → Wh s (fun _ s' => Inv ts.length s' p q) (zb7 ts T f s) := by
 intro f
 induction f with
 | zero => intro s _; trivial
 | succ f ih =>
  intro s h;unfold zb7;split
  · rename_i he
    have a0 := zb4 hG h.hk (za0 he);refine Wh.on ((zfi hG (by decide) a0.2.2.2.2).bind (fun t s1 _ a1 b1 c1 => ?_));obtain ⟨a1, g1, e1⟩ := a1;have j1 := (h.still a0).still a1;refine (zbt hG j1.hk).bind (fun _ s2 _ a2 b2 c2 => (hY s2 p q (j1.still a2)).bind (fun i s3 _ j3 b3 c3 => ?_));refine Wh.moved (s1 := s3.addA ⟨bs t.2.1, (i : Int), (t.2.2 : Nat)⟩) ((zbt hG (s := s3.addA ⟨bs t.2.1, (i : Int), (t.2.2 : Nat)⟩) j3.hk).bind (fun _ s4 _ a4 b4 c4 => ih s4 (zEi j3 rfl (by rw [tl_bs]; exact g1.ali e1) (by rw [zbh]; exact g1.len) a4.1 a4.2.1 a4.2.2.1 a4.2.2.2.1 a4.2.2.2.2))) (zJw _) rfl
  · exact Wh.ok_ h
theorem zBt (hG : Good ts) : Inv ts.length ⟨0, 0, [], [], [], []⟩ [] [] := ⟨hG.ok.pos, fun j x hx => by simp at hx, fun j x hx => by simp at hx, fun x hx => by simp at hx, fun a => by simp [nats], fun a => by simp [nats], zJw _, by simp⟩
theorem zGy (hG : Good ts) (f : Nat) : Wh ⟨0, 0, [], [], [], []⟩ (fun _ s' => ∃ i, Inv ts.length s' [i] []) (textM ts f ⟨0, 0, [], [], [], []⟩) := by
 unfold textM;exact (zDl hG (zur hG f) _ _ (zBt hG)).bind (fun _ s1 _ j1 _ _ => (zFm hG f s1 [] [] j1).bind (fun i s2 _ j2 _ _ => Wh.ok_ ⟨i, j2⟩))
theorem zi5 {l : List Nat} (h : ∀ a, l.count a ≤ 1) : l.Nodup := List.nodup_iff_count.2 h
theorem zD6 {n i : Nat} (h : Inv n s [i] []) (hn : n ≤ 1000) (h1 : s.t1.length ≤ 1000) (h2 : s.t2.length ≤ 1000) : Whole ⟨s.t1, s.t2, s.t3⟩ ∧ zb1 ⟨s.t1, s.t2, s.t3⟩ := by
 have hi := h.ltN (ta9 ..)
 have hlast : i = s.t1.length - 1 := by
  have h1 := h.pN (s.t1.length - 1);rw [if_pos (by omega)] at h1
  have h2 : (nats (s.t1.flatMap (·.kids))).count (s.t1.length - 1) = 0 := by
   rw [List.count_eq_zero];intro hm;obtain ⟨k, hk, e⟩ := List.mem_map.1 hm;obtain ⟨x, hx, hk⟩ := List.mem_flatMap.1 hk;obtain ⟨j, hj, rfl⟩ := zKo hx;have := (h.nod j _ (zK1 hj)).1 k hk;omega
  rw [h2] at h1;have h3 : ([i] : List Nat).count (s.t1.length - 1) = 1 := by omega
  have := List.count_pos_iff.1 (show 0 < ([i] : List Nat).count (s.t1.length - 1) by omega);simp only [zK7] at this;omega
 refine ⟨⟨⟨by show 1 ≤ s.t1.length; omega, fun j x hx => ⟨(h.nod j x hx).1, (h.nod j x hx).2.1, (h.nod j x hx).2.2.1⟩, fun j x hx => ⟨(h.typ j x hx).1, (h.typ j x hx).2.1⟩, fun x hx => ⟨(h.ali x hx).1, (h.ali x hx).2.1, (h.ali x hx).2.2.1⟩⟩, h.big.1, h.big.2, zi5 (fun a => ?_), zi5 (fun a => ?_), fun j hj => ?_, fun j hj => ?_⟩, ?_⟩
 · have := h.pN a
   show (nats (s.t1.flatMap (·.kids))).count a ≤ 1
   split at this <;> omega
 · have := h.pT a
   show (nats (s.t1.flatMap (·.types) ++ (s.t2.flatMap (·.kids) ++ s.t3.map (·.type)))).count a ≤ 1
   simp only [zb6, zKk, tad] at this ⊢;split at this <;> omega
 · have h1 := h.pN j
   have hj' : j < s.t1.length - 1 := hj;rw [if_pos (by omega)] at h1
   have h2 : ([i] : List Nat).count j = 0 := by
    rw [List.count_eq_zero]; simp only [zK7]; omega
   exact List.count_pos_iff.1 (show 0 < (nats (s.t1.flatMap (·.kids))).count j by omega)
 · have h1 := h.pT j
   have hj' : j < s.t2.length := hj;rw [if_pos hj'] at h1;refine List.count_pos_iff.1 (show 0 < (nats (s.t1.flatMap (·.types) ++ (s.t2.flatMap (·.kids) ++ s.t3.map (·.type)))).count j from ?_);simp only [zb6, zKk, tad] at h1 ⊢;omega
 · refine ⟨fun x hx => ?_, fun x hx => ?_, fun x hx => (h.ali x hx).2.2.2, ?_⟩
   · obtain ⟨j, hj, rfl⟩ := zKo hx
     exact (h.nod j _ (zK1 hj)).2.2.2
   · obtain ⟨j, hj, rfl⟩ := zKo hx
     exact (h.typ j _ (zK1 hj)).2.2
   · have := h.few
     have := h.hk;exact ⟨by dsimp only; omega, h1, h2⟩
end
end Go.Proofs.YtidmeodmkcomlaaGreatDoor
