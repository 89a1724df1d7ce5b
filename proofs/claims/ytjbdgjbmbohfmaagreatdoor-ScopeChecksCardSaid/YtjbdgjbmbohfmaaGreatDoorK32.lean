/- Scope: free names, over plain trees. The name that a term binds in a kid: the walk. Scope: what is wrong first, of a row. Scope: which aliases loop, told in -/
import Derived.Test.YtjbdgjbmbohfmaaGreatDoorK31
import Derived.Deep.QuietTactic
import Derived.BigQuiet
import Derived.Deep.Cut
import Derived.Maps.OwnIn
import Derived.Carry
namespace Go.Proofs.YtjbdgjbmbohfmaaGreatDoor
open Go Go.Proofs Go.RowKit
def noName : ByteArray := ⟨#[]⟩
/-- The name that a term binds in the kid at a place; empty: none. -/
def bndN (n : TermD) (p : Nat) : ByteArray :=
 if n.kind = 5 ∨ n.kind = 8 ∨ (n.kind = 7 ∧ p = 1) then n.name
 else if n.kind = 10 ∧ 0 < p ∧ 2 * p ≤ n.names.length then n.names.getD (2 * p - 1) noName
 else noName
/-- Of the kids from a place on. -/
def freeK (g : Nat → List ByteArray → List ByteArray) (n : TermD) : Nat → List Nat → List ByteArray → List ByteArray
 | _, [], _ => []
 | p, k :: ks, env => g k (bndN n p :: env) ++ freeK g n (p + 1) ks env
/-- The free names of a term, with those that are bound around it. -/
def freeL (t : TreeD) : Nat → Nat → List ByteArray → List ByteArray
 | 0, _, _ => []
 | f + 1, i, env => match t.nodes[i]? with
  | none => []
  | some n => (if n.kind = 0 ∧ inB env n.name = false then [n.name] else []) ++ freeK (freeL t f) n 0 (n.kids.map Int.toNat) env

theorem freeK_mem {g : Nat → List ByteArray → List ByteArray} {n : TermD} {s : ByteArray} : ∀ {ks : List Nat} {p : Nat} {env : List ByteArray}, s ∈ freeK g n p ks env ↔ ∃ j k, ks[j]? = some k ∧ s ∈ g k (bndN n (p + j) :: env)
 | [], p, env => by simp [freeK]
 | k :: ks, p, env => by
  unfold freeK
  rw [List.mem_append, freeK_mem]
  constructor
  ·rintro (h | ⟨j, k2, h1, h2⟩)
   ·exact ⟨0, k, rfl, h⟩
   ·exact ⟨j + 1, k2, by simpa using h1, by rwa [show p + (j + 1) = p + 1 + j by omega]⟩
  ·rintro ⟨j, k2, h1, h2⟩
   cases j with
   | zero =>
    simp only [List.getElem?_cons_zero, Option.some.injEq] at h1
    subst h1
    exact .inl h2
   | succ j =>
    simp only [List.getElem?_cons_succ] at h1
    exact .inr ⟨j, k2, h1, by rwa [show p + 1 + j = p + (j + 1) by omega]⟩
/-! ### rows of names that rise -/
/-- A row of bytes rises: each is less than all behind it. -/
abbrev Rise (l : List ByteArray) : Prop := l.Pairwise fun a b => a.data.toList < b.data.toList
theorem rise_eq : ∀ {l m : List ByteArray}, Rise l → Rise m → (∀ s, s ∈ l ↔ s ∈ m) → l = m
 | [], [], _, _, _ => rfl
 | [], b :: m, _, _, h => absurd ((h b).2 (by simp)) (by simp)
 | a :: l, [], _, _, h => absurd ((h a).1 (by simp)) (by simp)
 | a :: l, b :: m, hl, hm, h => by
  rw [Rise, List.pairwise_cons] at hl hm
  have irr : ∀ x : ByteArray, ¬ x.data.toList < x.data.toList := fun x => List.lt_irrefl _
  have hab : a = b := by
   have h1 := (h a).1 (by simp)
   have h2 := (h b).2 (by simp)
   rcases List.mem_cons.1 h1 with e | e
   ·exact e
   ·rcases List.mem_cons.1 h2 with e2 | e2
    ·exact e2.symm
    ·exact absurd (List.lt_trans (hl.1 b e2) (hm.1 a e)) (irr a)
  subst hab
  rw [rise_eq hl.2 hm.2]
  intro s
  constructor
  ·intro hs
   rcases List.mem_cons.1 ((h s).1 (by simp [hs])) with rfl | e
   ·exact absurd (hl.1 s hs) (irr s)
   ·exact e
  ·intro hs
   rcases List.mem_cons.1 ((h s).2 (by simp [hs])) with rfl | e
   ·exact absurd (hm.1 s hs) (irr s)
   ·exact e
set_option maxRecDepth 100000 in
set_option maxHeartbeats 4000000 in
theorem bound_any (x : TermD) (q : Ptr3) (p : Nat) (w : World) (hT : TermOk (Lt w.heap.size) w x q) (hp : p ≤ 70000) (hn : x.names.length ≤ 70000) :
 Calls Tryz.prog 83 #[.agg (termCells x q).toArray, .int .i64 (p : Int)] w fun e w' => e = .returned (.string (bndN x p)) ∧ Below w.heap.size w w' := by
 obtain ⟨kind, pos, nm, int, bits, nms, kids, tys⟩ := x
 have hNM := hT.1
 clear hT
 dsimp only at hNM hn
 dsimp only [termCells]
 obtain ⟨R, hR⟩ : ∃ R, bndN ⟨kind, pos, nm, int, bits, nms, kids, tys⟩ p = R := ⟨_, rfl⟩
 rw [hR]
 unfold bndN at hR
 dsimp only at hR
 have HR := Lib.hid hR
 clear hR
 have hb0 : Below w.heap.size w (w.alloc (.cells #[.int .i64 kind, .int .i64 pos, .string nm, .int .i64 int, .int .u64 (bits : Int), .slice q.a5 nms.length q.c5, .slice q.a6 kids.length q.c6, .slice q.a7 tys.length q.c7] 60)) := (Below.refl _ w).alloc (Nat.le_refl _) _
 have HB := Lib.hid hb0
 clear hb0
 by_cases h5 : kind = 5
 ·subst h5
  have e : R = nm := by rw [← HR.out, if_pos (.inl rfl)]
  subst e
  go_enter Tryz.func83, Tryz.ntmps83
  go_wp2
  go_ret
  exact ⟨rfl, HB.out⟩
 ·have k5 : (kind == 5) = false := by simp [h5]
  by_cases h8 : kind = 8
  ·subst h8
   have e : R = nm := by rw [← HR.out, if_pos (.inr (.inl rfl))]
   subst e
   go_enter Tryz.func83, Tryz.ntmps83
   go_wp2
   go_ret
   exact ⟨rfl, HB.out⟩
  ·have k8 : (kind == 8) = false := by simp [h8]
   by_cases h7 : kind = 7
   ·subst h7
    by_cases h1 : p = 1
    ·subst h1
     have e : R = nm := by rw [← HR.out, if_pos (.inr (.inr ⟨rfl, rfl⟩))]
     subst e
     go_enter Tryz.func83, Tryz.ntmps83
     go_wp2
     go_ret
     exact ⟨rfl, HB.out⟩
    ·have e : R = noName := by rw [← HR.out, if_neg (by simp [h1]), if_neg (by simp)]
     subst e
     have p1 : ((p : Int) == 1) = false := by simp; omega
     go_enter Tryz.func83, Tryz.ntmps83
     go_wp2
     go_ret
     exact ⟨rfl, HB.out⟩
   ·have k7 : (kind == 7) = false := by simp [h7]
    by_cases h10 : kind = 10
    ·subst h10
     by_cases h0 : 0 < p
     ·by_cases h2 : 2 * p ≤ nms.length
      ·have hlt : 2 * p - 1 < nms.length := by omega
       have e : R = nms[2 * p - 1] := by rw [← HR.out, if_neg (by simp), if_pos ⟨rfl, h0, h2⟩]; simp [List.getD_eq_getElem?_getD, List.getElem?_eq_getElem hlt]
       subst e
       obtain ⟨b, off, h6, hb, hc⟩ := hNM.2 (by omega)
       dsimp only [Lt] at hb
       have k0 := hc (2 * p - 1) (.string nms[2 * p - 1]) (by simp [hlt])
       obtain ⟨s, hs⟩ : ∃ s, nms[2 * p - 1] = s := ⟨_, rfl⟩
       rw [hs] at k0 ⊢
       clear HR hc hs hlt hNM
       have p0 : decide ((0 : Int) < (p : Int)) = true := by simp; omega
       have p2 : decide (2 * (p : Int) ≤ (nms.length : Int)) = true := by simp; omega
       rw [h6] at HB ⊢
       go_enter Tryz.func83, Tryz.ntmps83
       go_wp2
       go_ret
       exact ⟨rfl, HB.out⟩
      ·have e : R = noName := by rw [← HR.out, if_neg (by simp), if_neg (by simp; omega)]
       subst e
       have p0 : decide ((0 : Int) < (p : Int)) = true := by simp; omega
       have p2 : decide (2 * (p : Int) ≤ (nms.length : Int)) = false := by simp; omega
       go_enter Tryz.func83, Tryz.ntmps83
       go_wp2
       go_ret
       exact ⟨rfl, HB.out⟩
     ·obtain rfl : p = 0 := by omega
      have e : R = noName := by rw [← HR.out, if_neg (by simp), if_neg (by simp)]
      subst e
      go_enter Tryz.func83, Tryz.ntmps83
      go_wp2
      go_ret
      exact ⟨rfl, HB.out⟩
    ·have k10 : (kind == 10) = false := by simp [h10]
     have e : R = noName := by rw [← HR.out, if_neg (by simp [h5, h7, h8]), if_neg (by simp [h10])]
     subst e
     go_enter Tryz.func83, Tryz.ntmps83
     go_wp2
     go_ret
     exact ⟨rfl, HB.out⟩
structure DiagD where
 err : Int
 pos : Int
 name : ByteArray
def LtD (a b : DiagD) : Prop := a.pos < b.pos ∨ (a.pos = b.pos ∧ (a.err < b.err ∨ (a.err = b.err ∧ a.name.data.toList < b.name.data.toList)))
theorem LtD.trans {a b c : DiagD} (h : LtD a b) (k : LtD b c) : LtD a c := by
 unfold LtD at *
 rcases h with h | ⟨h1, h2 | ⟨h3, h4⟩⟩ <;> rcases k with k | ⟨k1, k2 | ⟨k3, k4⟩⟩
 ·left; omega
 ·left; omega
 ·left; omega
 ·left; omega
 ·right; exact ⟨by omega, .inl (by omega)⟩
 ·right; exact ⟨by omega, .inl (by omega)⟩
 ·left; omega
 ·right; exact ⟨by omega, .inl (by omega)⟩
 ·right; exact ⟨by omega, .inr ⟨by omega, List.lt_trans h4 k4⟩⟩
theorem LtD.eq {a b : DiagD} (h : ¬ LtD a b) (k : ¬ LtD b a) : a = b := by
 unfold LtD at *
 simp only [not_or, not_and] at h k
 have e1 : a.pos = b.pos := by omega
 have e2 : a.err = b.err := by
  have := (h.2 e1).1
  have := (k.2 e1.symm).1
  omega
 have e3 := (h.2 e1).2 e2
 have e4 := (k.2 e1.symm).2 e2.symm
 have e5 : a.name.data.toList = b.name.data.toList := List.le_antisymm e4 e3
 obtain ⟨a1, a2, ⟨⟨a3⟩⟩⟩ := a
 obtain ⟨b1, b2, ⟨⟨b3⟩⟩⟩ := b
 simp only at e1 e2 e5
 subst e1; subst e2; subst e5
 rfl
/-! ### what is wrong -/
/-- Each LetRec of what is no Fun. -/
def wrongT (t : TreeD) : List DiagD := t.nodes.flatMap fun n => if n.kind = 8 then (match t.nodes[(n.kids.headD 0).toNat]? with
 | some k => if k.kind = 5 then [] else [⟨1, k.pos, n.name⟩]
 | none => []) else []
/-- For each alias the one whose name stands there by itself. -/
def onA (t : TreeD) (a : AliD) : Int := match t.types[a.type.toNat]? with
 | some y => (match firstA t.aliases y.name with
  | some k => (k : Int)
  | none => -1)
 | none => -1
def onL (t : TreeD) : List Int := t.aliases.map (onA t)
/-- The alias whose name stands at a type. -/
def atYZ (t : TreeD) (i : Nat) : Option Nat := match t.types[i]? with
 | some y => if y.kind ≠ 10 then none else firstA t.aliases y.name
 | none => none
/-- Names are where they may be. -/
structure NmOk (t : TreeD) : Prop where
 typ : ∀ (i : Nat) y, t.types[i]? = some y → y.kind ≠ 10 → y.name = noName
 ali : ∀ a ∈ t.aliases, a.name ≠ noName
 rng : ∀ a ∈ t.aliases, a.type.toNat < t.types.length
theorem NmOk.no {t : TreeD} (h : NmOk t) : firstA t.aliases noName = none := by
 cases hf : firstA t.aliases noName with
 | none => rfl
 | some k =>
  obtain ⟨a, h1, h2, _⟩ := firstA_some hf
  exact absurd h2 (h.ali a (List.mem_of_getElem? h1))
structure RowI (t : TreeD) (m0 i : Nat) (out : List Nat) : Prop where
 nod : out.Nodup
 lt : ∀ k ∈ out, k < t.aliases.length
 reach : ∀ k ∈ out, ∃ n, nxN (onL t) n m0 = some k
 now : ∀ k, atYZ t i = some k → ∃ n, nxN (onL t) n m0 = some k
 clo : ∀ j k, j ∈ out → nx (onL t) j = some k → k ∈ out ∨ atYZ t i = some k
 first : m0 ∈ out ∨ atYZ t i = some m0
theorem RowI.le {t : TreeD} {m0 i : Nat} {out : List Nat} (h : RowI t m0 i out) : out.length ≤ t.aliases.length := by
 have := nodup_le (m := List.range t.aliases.length) h.nod (fun k hk => List.mem_range.2 (h.lt k hk))
 rwa [List.length_range] at this
end Go.Proofs.YtjbdgjbmbohfmaaGreatDoor
namespace Go.Proofs.YtjbdgjbmbohfmaaGreatDoor
open Go Go.Proofs Go.RowKit Go.Shelf
attribute [local go_sem] Oper.semAt_some

/-- What a round keeps: the row's block, and the iterator's box. -/
def Kb (b Bs : Nat) (W W' : World) : Prop := W.heap.size ≤ W'.heap.size ∧ ∀ k, k = b ∨ k = Bs → W'.heap[k]? = W.heap[k]?
theorem Kb.refl (b Bs : Nat) (W : World) : Kb b Bs W W := ⟨Nat.le_refl _, fun _ _ => rfl⟩
theorem Kb.trans {b Bs : Nat} {A B C : World} (h : Kb b Bs A B) (k : Kb b Bs B C) : Kb b Bs A C := ⟨Nat.le_trans h.1 k.1, fun i hi => (k.2 i hi).trans (h.2 i hi)⟩
theorem Kb.cell {b Bs k o : Nat} {A B : World} (h : Kb b Bs A B) (hk : k = b ∨ k = Bs) : B.cell? ⟨k, o, none⟩ = A.cell? ⟨k, o, none⟩ := World.cell?_of_block (a := ⟨k, o, none⟩) (h.2 k hk)
theorem Kb_put {b Bs : Nat} {w : World} (hb : b < w.heap.size) (hB : Bs < w.heap.size) (W : World) (l : Nat) (o o' : Obj) (hl : w.heap.size ≤ l) (h : W.heap[l]? = some o) (h1 : o.isCells = false) (h3 : o.isWalk = false) : Kb b Bs W (W.putObj l o') :=
 ⟨(belowK_b (n₀ := 0) (Nat.zero_le _) W l o o' hl h h1 h3).size, fun k hk => World.putObj_heap_other (by omega)⟩
theorem Kb.of_below {b Bs n₀ : Nat} {A B : World} (h : Below n₀ A B) (hb : b < n₀) (hB : Bs < n₀) : Kb b Bs A B := ⟨h.size, fun k hk => h.block k (by omega)⟩

/-- Aliases that lie in one block. -/
def AlisIn (b : Nat) (w : World) (A : Option Addr) (al : List AliD) : Prop :=
 0 < al.length → ∃ off, A = some ⟨b, off, none⟩ ∧ ∀ i t, al[i]? = some t → ∀ j u, (aliCells t)[j]? = some u → w.cell? ⟨b, off + i * 3 + j, none⟩ = some u
theorem AlisAt.into {B : Nat} {w : World} {A : Option Addr} {al : List AliD} (h : AlisAt (Lt B) w A al) (h0 : 0 < B) : ∃ b, b < B ∧ AlisIn b w A al := by
 by_cases hn : 0 < al.length
 ·obtain ⟨b, off, e, hb, hc⟩ := h hn
  exact ⟨b, hb, fun _ => ⟨off, e, hc⟩⟩
 ·exact ⟨0, h0, fun h => absurd h hn⟩
theorem AlisIn.block {b : Nat} {w w' : World} {A : Option Addr} {al : List AliD} (h : AlisIn b w A al) (hb : w'.heap[b]? = w.heap[b]?) : AlisIn b w' A al := fun hn => by
 obtain ⟨off, e, hc⟩ := h hn
 exact ⟨off, e, fun i t ht j u hu => (World.cell?_of_block (a := ⟨b, off + i * 3 + j, none⟩) hb).trans (hc i t ht j u hu)⟩

/-- The places, from the last one on. -/
def rv (n : Nat) : List (Fin n) := (List.ofFn (fun i : Fin n => i)).reverse
theorem rv_length (n : Nat) : (rv n).length = n := by simp [rv]
theorem rv_get (n k i : Nat) (h : n = i + 1 + k) : (rv n)[k]? = some ⟨i, by omega⟩ := by
 unfold rv
 rw [List.getElem?_reverse (by simp; omega)]
 simp only [List.length_ofFn]
 rw [List.getElem?_eq_getElem (by simp; omega), List.getElem_ofFn]
 congr 2
 omega
abbrev encA (al : List AliD) (i : Fin al.length) : Array Value := #[.int .i64 (i.1 : Int), .agg (aliCells al[i.1]).toArray]

def BackPostA (al : List AliD) (J Jx : List (Fin al.length) → World → Prop) (e : Ending) (W' : World) : Prop :=
 (∃ v, e = .returned v) ∧ ((∃ ys, ys = rv al.length ∧ J ys W') ∨ (∃ pre, (∃ rest, rv al.length = pre ++ rest) ∧ Jx pre W'))

set_option maxRecDepth 100000 in
set_option maxHeartbeats 2000000 in
theorem backA_in (n : Nat) (hn : 1 ≤ n) (ll Bs b : Nat) (A : Option Addr) (cap : Nat) (al : List AliD) (hlen : al.length ≤ 140737488351232) (J Jx : List (Fin al.length) → World → Prop)
 (W : World) (_ : AbidesFrom W.heap.size J)
 (hY : ∀ pre (x : Fin al.length) W, J pre W → pre.length < al.length → YieldAt Fence.wide (n - 1) Tryz.prog ll (encA al x) W fun e W' =>
  (e = .returned (.bool true) ∧ J (pre ++ [x]) W' ∧ Kb b Bs W W') ∨ (e = .returned (.bool false) ∧ Jx (pre ++ [x]) W'))
 (hBs : W.cell? ⟨Bs, 0, none⟩ = some (.slice A al.length cap)) (hh : AlisIn b W A al) (h0 : J [] W) :
 CallsIn Fence.wide n Tryz.prog 229 #[.func (.yield ll) #[] #[], .pointer (some ⟨Bs, 0, none⟩)] W (BackPostA al J Jx) := by
 have hbl := rv_length al.length
 have HBL := Lib.hid hbl
 clear hbl
 refine callsIn_of_wp Tryz.func229 rfl trivial ?_ rfl
 simp only [Tryz.ntmps229, List.size_toArray, List.length_cons, List.length_nil, Nat.reduceAdd, Nat.reduceSub, Array.replicate_succ, Array.replicate_zero, List.push_toArray, List.append_toArray, List.nil_append, List.cons_append]
 gi_wp2
 gi_loopw [3] (fun i wr => ∃ k : Nat, k ≤ al.length ∧ i = .int .i64 ((al.length : Int) - 1 - k) ∧ J ((rv al.length).take k) wr ∧ Kb b Bs W wr ∧ W.heap.size ≤ wr.heap.size)
  (fun i _ => (intOf i + 1).toNat)
 case atStart => exact ⟨0, Nat.zero_le _, by simp, by simpa using h0, Kb.refl _ _ _, Nat.le_refl _⟩
 case round =>
  obtain ⟨k, hk, rfl, hJs, hK, hsz⟩ := hrel
  have hB1 : wr.cell? ⟨Bs, 0, none⟩ = some (.slice A al.length cap) := (hK.cell (.inr rfl)).trans hBs
  by_cases hlt : k < al.length
  ·obtain ⟨i, hi⟩ : ∃ i : Nat, al.length = i + 1 + k := ⟨al.length - 1 - k, by omega⟩
   have hix : (al.length : Int) - 1 - k = i := by omega
   have hil : i < al.length := by omega
   obtain ⟨off, rfl, hcell⟩ := hh (by omega)
   have hcq := hcell i al[i] (List.getElem?_eq_getElem hil)
   have q0 := (hK.cell (o := off + i * 3) (.inl rfl)).trans (hcq 0 _ rfl)
   have q1 := (hK.cell (o := off + i * 3 + 1) (.inl rfl)).trans (hcq 1 _ rfl)
   have q2 := (hK.cell (o := off + i * 3 + 2) (.inl rfl)).trans (hcq 2 _ rfl)
   have htk : (rv al.length).take (k + 1) = (rv al.length).take k ++ [⟨i, hil⟩] := by
    rw [List.take_add_one, rv_get _ k i hi]; rfl
   have HT := Lib.hid htk
   have hYx := hY ((rv al.length).take k) ⟨i, hil⟩ wr hJs (by simp; omega)
   have hpre : ∃ rest, rv al.length = ((rv al.length).take k ++ [⟨i, hil⟩]) ++ rest := ⟨(rv al.length).drop (k + 1), by rw [← HT.out, List.take_append_drop]⟩
   have HP := Lib.hid hpre
   have HI := Lib.hid hi
   rw [hix]
   clear hcell htk hix hcq hpre hi
   obtain ⟨x, hx⟩ : ∃ x, al[i] = x := ⟨_, rfl⟩
   obtain ⟨fn, tmps, assign, body, hy, hR⟩ := hYx
   dsimp only [encA] at hy
   rw [hx] at q0 q1 q2 hy
   clear hx
   dsimp only [aliCells] at hy
   gi_wp2
   refine hR.mono ?_
   rintro e W3 (⟨rfl, hJ3, hk3⟩ | ⟨rfl, hJx3⟩)
   ·gi_wp2
    go_roundw
    case rel => exact ⟨k + 1, by omega, by have := HI.out; congr 1; omega, by rw [HT.out]; exact hJ3, hK.trans hk3, by have := hk3.1; omega⟩
    case measure => simp [intOf]
   ·gi_wp2
    refine bodyPost_ret (results_none rfl _ _ _) rfl ?_
    exact ⟨⟨_, rfl⟩, .inr ⟨_, HP.out, hJx3⟩⟩
  ·obtain rfl : k = al.length := by omega
   have hix : (al.length : Int) - 1 - (al.length : Int) = -1 := by omega
   rw [hix]
   clear hix
   gi_wp2
   go_end0
   exact ⟨⟨_, rfl⟩, .inl ⟨_, by rw [List.take_of_length_le (by rw [HBL.out]; exact Nat.le_refl _)], hJs⟩⟩
end Go.Proofs.YtjbdgjbmbohfmaaGreatDoor
