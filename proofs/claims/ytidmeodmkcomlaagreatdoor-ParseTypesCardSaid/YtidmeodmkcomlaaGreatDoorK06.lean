/- A tree of a call's own: three rows that a block names; what keeps it, and what is appended to it. The bytes of a sign, as the document's answer has them, at -/
import Derived.Test.YtidmeodmkcomlaaGreatDoorK05
import Derived.Laws.AppendOwnNone
import Derived.Lib.SliceRun
import Derived.Lib.RuneBytes
set_option linter.unusedSimpArgs false
set_option linter.unusedVariables false
namespace Go.Proofs.YtidmeodmkcomlaaGreatDoor
open Go Go.Proofs Go.RowKit
section
variable {P : Program} (w : World)
theorem zdy {ops : Array Oper} {o : Oper} {a : Act} {K : Act → World → Prop} {Q : Exit → Act → World → Prop} {E : Prop} (hgd : o.guard = none) (s x : Operand) (t : TypeId)
 (ho : o.op = .call { callee := .builtin .append, args := #[s, x], argTypes := #[t, t] })
 (base : Nat) (e : TypeId) (i : TypeInfo) (z : Value) (size bytes : Nat) (ht : P.underlying t = some (.slice e)) (hi : P.info? e = some i) (hz : i.zero = some z)
 (hsize : i.size = size) (hby : i.bytes = bytes) (hzs : z.cells.size = size) (hsz : 0 < size)
 (v : Value) (n : Nat) (xs : List Value) (hs : a.eval s = v) (hown : w.ownsRow base e size v n xs)
 (A : Option Addr) (m c : Nat) (news : List Value) (hx : a.eval x = .slice A m c) (hl : news.length = m * size) (hr : RdAt w A news) (h1 : ∀ u ∈ news, u.oneCell' = true)
 (h63 : n + m ≤ maxLen) (hbytes : (n + m) * bytes ≤ 140737488355328) (hbase : base ≤ w.heap.size)
 (h : ∀ v' w', w'.ownsRow base e size v' (n + m) (xs ++ news) → w.grownBy w' v.ownBlock → (v'.ownBlock = v.ownBlock ∨ v'.ownBlock = some w.heap.size) → K (a.put o.dst v') w') :
 if Region.wanted o (yielded ops a.tmps) = true then Oper.wp P o a w K Q else E := by
 have hw : Region.wanted o (yielded ops a.tmps) = true := by simp [Region.wanted, hgd]
 rw [if_pos hw];obtain ⟨v', w', hrun, h2, h3, h4⟩ := zkb (P := P) w base t o.type e i z size bytes ht hi hz hsize hby hzs hsz v n xs hown A m c news hl hr h1 h63 hbytes hbase;unfold Oper.wp execOp;simp only [ho, resolve, invoke, builtin, Sem.run_bind, Sem.run_pure, Result.andThen_ok, List.map_toArray, List.map_cons, List.map_nil, hs, hx, hrun];exact h v' w' h2 h3 h4
end
theorem zgx (w : World) (cs : List Value) (t : TypeId) : RdAt (w.alloc (.cells cs.toArray t)) (some ⟨w.heap.size, 0, none⟩) cs := .inr ⟨_, _, rfl, fun j x hx => by
 rw [(Blk.new w t cs.toArray).cell (0 + j), Nat.zero_add]
 simpa using hx⟩
theorem zcp {w : World} {b1 b2 : Nat} {e1 e2 : TypeId} {s1 s2 n1 n2 : Nat} {v1 v2 : Value} {x1 x2 : List Value} (h1 : w.ownsRow b1 e1 s1 v1 n1 x1) (h2 : w.ownsRow b2 e2 s2 v2 n2 x2) (hne : e1 ≠ e2) :
 ∀ g, v1.ownBlock = some g → v2.ownBlock ≠ some g := by
 intro g hg hg2;rcases h1.2 with ⟨rfl, _⟩ | ⟨g1, cap1, cur1, rfl, _, hh1, _⟩
 · cases hg
 · rcases h2.2 with ⟨rfl, _⟩ | ⟨g2, cap2, cur2, rfl, _, hh2, _⟩
   · cases hg2
   · simp only [Value.ownBlock, zKt] at hg hg2
     subst hg;subst hg2;rw [hh1] at hh2;injection hh2 with hh2
     injection hh2 with _ hh2
     exact hne hh2
theorem za3 {w : World} {base : Nat} {e t : TypeId} {size n g : Nat} {v : Value} {xs : List Value} {cs : Array Value} (h : w.ownsRow base e size v n xs) (hg : Blk w g t cs) (hne : e ≠ t) : v.ownBlock ≠ some g := by
 rcases h.2 with ⟨rfl, _⟩ | ⟨g', cap, cur, rfl, _, hh, _⟩
 · simp [Value.ownBlock]
 · intro he
   have : g' = g := by simpa [Value.ownBlock] using he
   subst this;unfold Blk at hg;rw [hh] at hg;injection hg with hg
   injection hg with _ hg
   exact hne hg
abbrev zf2 (r : List (TermD × Ptr3)) : List Value := r.flatMap fun x => za1 x.1 x.2
abbrev zar (r : List (TypD × Ptr2)) : List Value := r.flatMap fun x => za4 x.1 x.2
abbrev zd2 (r : List AliD) : List Value := r.flatMap zco
def Part (w : World) (base cb : Nat) (v1 v2 v3 : Value) : Nat → Prop := fun b => base ≤ b ∧ b < w.heap.size ∧ b ≠ cb ∧ v1.ownBlock ≠ some b ∧ v2.ownBlock ≠ some b ∧ v3.ownBlock ≠ some b
structure TreeOwn (w : World) (base cb : Nat) (ty : TypeId) (v1 v2 v3 : Value) (r1 : List (TermD × Ptr3)) (r2 : List (TypD × Ptr2)) (r3 : List AliD) : Prop where
 blk : Blk w cb ty #[v1, v2, v3]
 tys : ty = 27 ∨ ty = 99
 bas : base ≤ cb
 o1 : w.ownsRow base 38 8 v1 r1.length (zf2 r1)
 o2 : w.ownsRow base 40 6 v2 r2.length (zar r2)
 o3 : w.ownsRow base 44 3 v3 r3.length (zd2 r3)
 k1 : ∀ x ∈ r1, TermOk (Part w base cb v1 v2 v3) w x.1 x.2
 k2 : ∀ x ∈ r2, TypOk (Part w base cb v1 v2 v3) w x.1 x.2
theorem TreeOwn.below {w w' : World} {base cb : Nat} {ty : TypeId} {v1 v2 v3 : Value} {r1 : List (TermD × Ptr3)} {r2 : List (TypD × Ptr2)} {r3 : List AliD} (h : TreeOwn w base cb ty v1 v2 v3 r1 r2 r3) (hb : Below w.heap.size w w') : TreeOwn w' base cb ty v1 v2 v3 r1 r2 r3 :=
 ⟨h.blk.below hb h.blk.lt, h.tys, h.bas, zaj h.o1 hb, zaj h.o2 hb, zaj h.o3 hb,
  fun x hx => ((h.k1 x hx).keep (fun b o k => hb.cell (p := ⟨b, o, none⟩) k.2.1)).imp (fun _ k => ⟨k.1, zJy k.2.1 hb.size, k.2.2⟩),
  fun x hx => ((h.k2 x hx).keep (fun b o k => hb.cell (p := ⟨b, o, none⟩) k.2.1)).imp (fun _ k => ⟨k.1, zJy k.2.1 hb.size, k.2.2⟩)⟩
theorem TreeOwn.pushTerm {w w1 w2 w3 : World} {base cb : Nat} {ty : TypeId} {v1 v2 v3 v' : Value} {r1 : List (TermD × Ptr3)} {r2 : List (TypD × Ptr2)} {r3 : List AliD} (h : TreeOwn w base cb ty v1 v2 v3 r1 r2 r3) (x : TermD) (p : Ptr3)
 (hb : Below w.heap.size w w1) (hx : TermOk (fun b => w.heap.size ≤ b ∧ b < w1.heap.size) w1 x p) (hb2 : Below w1.heap.size w1 w2) (how : w3.ownsRow base 38 8 v' (r1.length + 1) (zf2 r1 ++ zf2 [(x, p)])) (hg : w2.grownBy w3 v1.ownBlock) (hl : v'.ownBlock = v1.ownBlock ∨ v'.ownBlock = some w2.heap.size) :
 TreeOwn (w3.setCell ⟨cb, 0, none⟩ v') base cb ty v' v2 v3 (r1 ++ [(x, p)]) r2 r3 ∧ (∀ B, B ≤ base → B ≤ w.heap.size → Below B w (w3.setCell ⟨cb, 0, none⟩ v')) := by
 have h2 := (h.below hb).below hb2;have hs1 := hb.size;have hs2 := hb2.size;have hs3 := hg.size;have hcb := h2.blk.lt;have n0 : v1.ownBlock ≠ some cb := za3 h2.o1 h2.blk (by rcases h.tys with e | e <;> rw [e] <;> decide)
 have n2 : v2.ownBlock = none ∨ v2.ownBlock ≠ v1.ownBlock := by
  rcases zae h2.o2 with e | ⟨g, e, _⟩
  · exact .inl e
  · exact .inr (fun e2 => zcp h2.o2 h2.o1 (by decide) g e (e2 ▸ e))
 have n3 : v3.ownBlock = none ∨ v3.ownBlock ≠ v1.ownBlock := by
  rcases zae h2.o3 with e | ⟨g, e, _⟩
  · exact .inl e
  · exact .inr (fun e2 => zcp h2.o3 h2.o1 (by decide) g e (e2 ▸ e))
 have hcb3 : Blk w3 cb ty #[v1, v2, v3] := h2.blk.grown hg (fun e => n0 e.symm);have n' : v'.ownBlock ≠ some cb := za3 how hcb3 (by rcases h.tys with e | e <;> rw [e] <;> decide)
 have hset : w3.grownBy (w3.setCell ⟨cb, 0, none⟩ v') (some cb) := za9 (zaf w3 (some cb)) (.inl rfl) v'
 have hkp : ∀ b o, Part w2 base cb v1 v2 v3 b → (w3.setCell ⟨cb, 0, none⟩ v').cell? ⟨b, o, none⟩ = w2.cell? ⟨b, o, none⟩ := fun b o hp => by
  rw [zK0 _ _ _ _ (by intro e; injection e with e; exact hp.2.2.1 e.symm)];exact zKb (a := ⟨b, o, none⟩) (hg.block b hp.2.1 (fun e => hp.2.2.2.1 e.symm))
 have him : ∀ b, Part w2 base cb v1 v2 v3 b → Part (w3.setCell ⟨cb, 0, none⟩ v') base cb v' v2 v3 b := fun b hp =>
  ⟨hp.1, by have := hp.2.1; simp only [World.setCell]; simp; omega, hp.2.2.1, (by rcases hl with e | e <;> rw [e]; exact hp.2.2.2.1; intro e2; injection e2 with e2; have := hp.2.1; omega), hp.2.2.2.2.1, hp.2.2.2.2.2⟩
 refine ⟨⟨by have := hcb3.set_ 0 v'; simpa using this,
  h.tys,
  h.bas,
  by simpa [zf2] using (how.kept hset (.inr n')),
  ((h2.o2.kept hg n2).kept hset (by rcases zae h2.o2 with e | ⟨g, e, _⟩; exact .inl e; exact .inr (za3 (h2.o2.kept hg n2) hcb3 (by rcases h.tys with e | e <;> rw [e] <;> decide)))),
  ((h2.o3.kept hg n3).kept hset (by rcases zae h2.o3 with e | ⟨g, e, _⟩; exact .inl e; exact .inr (za3 (h2.o3.kept hg n3) hcb3 (by rcases h.tys with e | e <;> rw [e] <;> decide)))),
  fun y hy => by
   rcases List.mem_append.1 hy with hy | hy
   · exact ((h2.k1 y hy).keep hkp).imp him
   · simp only [zK7] at hy
     subst hy
     exact (((hx.keep (w' := w2) (fun b o hq => hb2.cell (p := ⟨b, o, none⟩) hq.2)).imp (Qb := Part w2 base cb v1 v2 v3) (fun b hq => by
   have q1 := hq.1;have q2 := hq.2;have a1 := zae h.o1;have a2 := zae h.o2;have a3 := zae h.o3;have hc := h.blk.lt;have hbs := h.bas;refine ⟨by omega, by omega, by omega, ?_, ?_, ?_⟩
   · rcases a1 with e | ⟨g, e, _, hgl⟩
     · rw [e]; simp
     · rw [e]; intro e2; injection e2; omega
   · rcases a2 with e | ⟨g, e, _, hgl⟩
     · rw [e]; simp
     · rw [e]; intro e2; injection e2; omega
   · rcases a3 with e | ⟨g, e, _, hgl⟩
     · rw [e]; simp
     · rw [e]; intro e2; injection e2; omega)).keep hkp).imp him,
  fun y hy => ((h2.k2 y hy).keep hkp).imp him⟩, fun B hB hBw => ?_⟩
 have hb3 : Below B w w2 := (hb.mono hBw).trans (hb2.mono (by omega));exact (zg5 hb3 h2.o1 hg hB (by omega)).setCell (p := ⟨cb, 0, none⟩) (by have := h.bas; dsimp only; omega) _
theorem TreeOwn.pushType {w w1 w2 w3 : World} {base cb : Nat} {ty : TypeId} {v1 v2 v3 v' : Value} {r1 : List (TermD × Ptr3)} {r2 : List (TypD × Ptr2)} {r3 : List AliD} (h : TreeOwn w base cb ty v1 v2 v3 r1 r2 r3) (x : TypD) (p : Ptr2)
 (hb : Below w.heap.size w w1) (hx : TypOk (fun b => w.heap.size ≤ b ∧ b < w1.heap.size) w1 x p) (hb2 : Below w1.heap.size w1 w2) (how : w3.ownsRow base 40 6 v' (r2.length + 1) (zar r2 ++ zar [(x, p)])) (hg : w2.grownBy w3 v2.ownBlock) (hl : v'.ownBlock = v2.ownBlock ∨ v'.ownBlock = some w2.heap.size) :
 TreeOwn (w3.setCell ⟨cb, 1, none⟩ v') base cb ty v1 v' v3 r1 (r2 ++ [(x, p)]) r3 ∧ (∀ B, B ≤ base → B ≤ w.heap.size → Below B w (w3.setCell ⟨cb, 1, none⟩ v')) := by
 have h2 := (h.below hb).below hb2;have hs1 := hb.size;have hs2 := hb2.size;have hs3 := hg.size;have hcb := h2.blk.lt;have n0 : v2.ownBlock ≠ some cb := za3 h2.o2 h2.blk (by rcases h.tys with e | e <;> rw [e] <;> decide)
 have n1 : v1.ownBlock = none ∨ v1.ownBlock ≠ v2.ownBlock := by
  rcases zae h2.o1 with e | ⟨g, e, _⟩
  · exact .inl e
  · exact .inr (fun e2 => zcp h2.o1 h2.o2 (by decide) g e (e2 ▸ e))
 have n3 : v3.ownBlock = none ∨ v3.ownBlock ≠ v2.ownBlock := by
  rcases zae h2.o3 with e | ⟨g, e, _⟩
  · exact .inl e
  · exact .inr (fun e2 => zcp h2.o3 h2.o2 (by decide) g e (e2 ▸ e))
 have hcb3 : Blk w3 cb ty #[v1, v2, v3] := h2.blk.grown hg (fun e => n0 e.symm);have n' : v'.ownBlock ≠ some cb := za3 how hcb3 (by rcases h.tys with e | e <;> rw [e] <;> decide)
 have hset : w3.grownBy (w3.setCell ⟨cb, 1, none⟩ v') (some cb) := za9 (zaf w3 (some cb)) (.inl rfl) v'
 have hkp : ∀ b o, Part w2 base cb v1 v2 v3 b → (w3.setCell ⟨cb, 1, none⟩ v').cell? ⟨b, o, none⟩ = w2.cell? ⟨b, o, none⟩ := fun b o hp => by
  rw [zK0 _ _ _ _ (by intro e; injection e with e; exact hp.2.2.1 e.symm)];exact zKb (a := ⟨b, o, none⟩) (hg.block b hp.2.1 (fun e => hp.2.2.2.2.1 e.symm))
 have him : ∀ b, Part w2 base cb v1 v2 v3 b → Part (w3.setCell ⟨cb, 1, none⟩ v') base cb v1 v' v3 b := fun b hp =>
  ⟨hp.1, by have := hp.2.1; simp only [World.setCell]; simp; omega, hp.2.2.1, hp.2.2.2.1, (by rcases hl with e | e <;> rw [e]; exact hp.2.2.2.2.1; intro e2; injection e2 with e2; have := hp.2.1; omega), hp.2.2.2.2.2⟩
 refine ⟨⟨by have := hcb3.set_ 1 v'; simpa using this,
  h.tys,
  h.bas,
  ((h2.o1.kept hg n1).kept hset (by rcases zae h2.o1 with e | ⟨g, e, _⟩; exact .inl e; exact .inr (za3 (h2.o1.kept hg n1) hcb3 (by rcases h.tys with e | e <;> rw [e] <;> decide)))),
  by simpa [zar] using (how.kept hset (.inr n')),
  ((h2.o3.kept hg n3).kept hset (by rcases zae h2.o3 with e | ⟨g, e, _⟩; exact .inl e; exact .inr (za3 (h2.o3.kept hg n3) hcb3 (by rcases h.tys with e | e <;> rw [e] <;> decide)))),
  fun y hy => ((h2.k1 y hy).keep hkp).imp him,
  fun y hy => by
   rcases List.mem_append.1 hy with hy | hy
   · exact ((h2.k2 y hy).keep hkp).imp him
   · simp only [zK7] at hy
     subst hy
     exact (((hx.keep (w' := w2) (fun b o hq => hb2.cell (p := ⟨b, o, none⟩) hq.2)).imp (Qb := Part w2 base cb v1 v2 v3) (fun b hq => by
   have q1 := hq.1;have q2 := hq.2;have a1 := zae h.o1;have a2 := zae h.o2;have a3 := zae h.o3;have hc := h.blk.lt;have hbs := h.bas;refine ⟨by omega, by omega, by omega, ?_, ?_, ?_⟩
   · rcases a1 with e | ⟨g, e, _, hgl⟩
     · rw [e]; simp
     · rw [e]; intro e2; injection e2; omega
   · rcases a2 with e | ⟨g, e, _, hgl⟩
     · rw [e]; simp
     · rw [e]; intro e2; injection e2; omega
   · rcases a3 with e | ⟨g, e, _, hgl⟩
     · rw [e]; simp
     · rw [e]; intro e2; injection e2; omega)).keep hkp).imp him⟩, fun B hB hBw => ?_⟩
 have hb3 : Below B w w2 := (hb.mono hBw).trans (hb2.mono (by omega));exact (zg5 hb3 h2.o2 hg hB (by omega)).setCell (p := ⟨cb, 1, none⟩) (by have := h.bas; dsimp only; omega) _
theorem zb8 {w : World} {base : Nat} {e : TypeId} {size n : Nat} {v : Value} {xs : List Value} (h : w.ownsRow base e size v n xs) : ∀ g, v.ownBlock = some g → g < w.heap.size := fun g e2 => by
 rcases zae h with e3 | ⟨g', e3, _, hl⟩
 · rw [e3] at e2; cases e2
 · rw [e3] at e2; injection e2 with e2; omega
end Go.Proofs.YtidmeodmkcomlaaGreatDoor
namespace Go.Proofs.YtidmeodmkcomlaaGreatDoor
open Go Go.Proofs Go.RowKit Go.Shelf
set_option maxHeartbeats 2000000
def zai (l : List UInt8) : List Value := l.map fun c => Value.int .u8 (c.toNat : Int)
theorem info5 : (Tryz.prog.info? 5).map (fun i => (i.zero, i.size, i.bytes)) = some (some (.int .u8 0), 1, 1) := by kernel_rfl
theorem zg7 (l : List UInt8) : (zai l).length = l.length := by simp [zai]
theorem ziy (l m : List UInt8) : zai (l ++ m) = zai l ++ zai m := by simp [zai]
theorem zdo (b off j : Nat) : (⟨b, off, none⟩ : Addr).add j = ⟨b, off + j, none⟩ := by
 unfold Addr.add; split <;> simp_all
theorem zq4 {w : World} {base : Nat} {v : Value} {n : Nat} {l : List UInt8} (h : w.ownsRow base 5 1 v n (zai l)) : TextAt w.heap.size w v l := by
 have hl : l.length = n := by have := h.1; simpa [zg7] using this
 rcases h.2 with ⟨rfl, rfl⟩ | ⟨g, cap, cur, rfl, hb, hg, hn, _, hcs, _⟩
 · exact .inl ⟨none, 0, fun _ => rfl, rfl, List.length_eq_zero_iff.1 hl⟩
 · refine .inr ⟨g, 0, cap, by rw [hl], (Array.getElem?_eq_some_iff.1 hg).1, by omega, fun j hj => ?_⟩
   have := h.cells (g := g) rfl j (.int .u8 ((l.getD j 0).toNat : Int)) (by simp [zai, zK3, zK1 hj]);rwa [zdo] at this
theorem TextAt.more {n m : Nat} {W : World} {sv : Value} {l : List UInt8} (hn : n ≤ m) : TextAt n W sv l → TextAt m W sv l
 | .inl e => .inl e
 | .inr ⟨b, off, cap, e, hb, hc, hh⟩ => .inr ⟨b, off, cap, e, zJy hb hn, hc, hh⟩
def zgo (r : Int) : Prop := 0 ≤ r ∧ r ≤ 1114111 ∧ ¬ (55296 ≤ r ∧ r ≤ 57343)
def encB (r : Int) : List UInt8 := (Lib.encodeRuneZ r).map fun x => UInt8.ofNat x.toNat
theorem zv8 (r : Int) : zai (encB r) = Lib.runeCells r := by
 unfold zai encB Lib.runeCells;rw [List.map_map];apply List.map_congr_left
 intro x hx;have := Lib.encodeRuneZ_byte r x hx;simp
 omega
theorem zPr (n₀ : Nat) (w : World) (l : List UInt8) (cs : Array Value) (hc : cs = (zai l).toArray) (h : w.heap.size < n₀) : TextAt n₀ (w.alloc (.cells cs 5)) (.slice (some ⟨w.heap.size, 0, none⟩) l.length l.length) l := by
 subst hc;refine .inr ⟨w.heap.size, 0, l.length, rfl, h, zJw _, ?_⟩;intro j hj;have hn := World.alloc_heap_new w (.cells (zai l).toArray 5);simp only [World.cell?, hn];simp [zai, zK3, zK1 hj]
def zlx (r : Int) (w : World) (e : Ending) (w' : World) : Prop :=
 e = .returned (.tuple #[.slice (some ⟨w.heap.size, 0, none⟩) (encB r).length (encB r).length, .bool true]) ∧ w' = w.alloc (.cells (zai (encB r)).toArray 5)
theorem zvs (r : Int) (h : ¬ zgo r) (w : World) :
 Calls Tryz.prog 122 #[.int .i64 r] w fun e w' => e = .returned (.tuple #[.slice none 0 0, .bool false]) ∧ w' = w := by
 unfold zgo at h;by_cases c1 : r < 0
 · clear h
   go_enter Tryz.func122, Tryz.ntmps122
   go_wp2
   go_ret2
   exact ⟨rfl, rfl⟩
 · by_cases c2 : 1114111 < r
   · clear h
     go_enter Tryz.func122, Tryz.ntmps122
     go_wp2
     go_ret2
     exact ⟨rfl, rfl⟩
   · have c3 : 55296 ≤ r := by omega
     have c4 : r ≤ 57343 := by omega
     clear h;go_enter Tryz.func122, Tryz.ntmps122
     go_wp2
     go_ret2
     exact ⟨rfl, rfl⟩
theorem zfw (r : Int) (w : World) (zs : List Int) (h : Lib.encodeRuneZ r = zs) : zlx r w (.returned (.tuple #[.slice (some ⟨w.heap.size, 0, none⟩) zs.length zs.length, .bool true])) (w.alloc (.cells (zs.map fun x => Value.int .u8 x).toArray 5)) := by
 unfold zlx;rw [zv8];unfold Lib.runeCells encB;rw [h];simp
theorem zyy (r : Int) (h : zgo r) (w : World) : Calls Tryz.prog 122 #[.int .i64 r] w (zlx r w) := by
 obtain ⟨h0, h1, h2⟩ := h;by_cases c1 : r ≤ 127
 · have he := zJv (Lib.encodeRuneZ_one h0 c1)
   clear h2;go_enter Tryz.func122, Tryz.ntmps122
   go_wp2
   go_ret2
   exact zfw r w _ he.out
 by_cases c2 : r ≤ 2047
 · have he := zJv (Lib.encodeRuneZ_two (r := r) (by omega) c2)
   clear h2;go_enter Tryz.func122, Tryz.ntmps122
   go_wp2
   go_ret2
   exact zfw r w _ he.out
 by_cases c3 : r ≤ 65535
 · have he := zJv (Lib.encodeRuneZ_three (r := r) (by omega))
   by_cases c4 : r < 55296
   · clear h2
     go_enter Tryz.func122, Tryz.ntmps122
     go_wp2
     go_ret2
     exact zfw r w _ he.out
   · have c5 : 57343 < r := by omega
     clear h2;go_enter Tryz.func122, Tryz.ntmps122
     go_wp2
     go_ret2
     exact zfw r w _ he.out
 · have he := zJv (Lib.encodeRuneZ_four (r := r) (by omega) h1)
   clear h2;go_enter Tryz.func122, Tryz.ntmps122
   go_wp2
   go_ret2
   exact zfw r w _ he.out
theorem zy0 (r : Int) (h : zgo r) : D (encB r) = (r.toNat, (encB r).length) := by
 obtain ⟨h0, h1, h2⟩ := h;by_cases c1 : r ≤ 127
 · unfold encB; rw [Lib.encodeRuneZ_one h0 c1]
   unfold D Lib.decodeN;simp
   repeat' split
   all_goals first | (exfalso; omega) | (refine Prod.ext ?_ ?_ <;> dsimp only <;> omega) | skip
 by_cases c2 : r ≤ 2047
 · unfold encB; rw [Lib.encodeRuneZ_two (by omega) c2]
   unfold D Lib.decodeN;simp
   repeat' split
   all_goals first | (exfalso; omega) | (refine Prod.ext ?_ ?_ <;> dsimp only <;> omega) | skip
 by_cases c3 : r ≤ 65535
 · unfold encB; rw [Lib.encodeRuneZ_three (by omega)]
   unfold D Lib.decodeN;simp
   repeat' split
   all_goals first | (exfalso; omega) | (refine Prod.ext ?_ ?_ <;> dsimp only <;> omega) | skip
 · unfold encB; rw [Lib.encodeRuneZ_four (by omega) h1]
   unfold D Lib.decodeN;simp
   repeat' split
   all_goals first | (exfalso; omega) | (refine Prod.ext ?_ ?_ <;> dsimp only <;> omega) | skip
theorem zsi (r : Int) : 1 ≤ (encB r).length ∧ (encB r).length ≤ 4 := by
 have := Lib.encodeRuneZ_length r;simpa [encB] using this
theorem zAy (r : Int) (h : zgo r) : ¬ isBad (encB r) := by
 unfold isBad;rw [zy0 r h];dsimp only;rintro ⟨h1, h2⟩;have hr : r = 65533 := by have := h.1; omega
 subst hr;revert h2
 decide
end Go.Proofs.YtidmeodmkcomlaaGreatDoor
